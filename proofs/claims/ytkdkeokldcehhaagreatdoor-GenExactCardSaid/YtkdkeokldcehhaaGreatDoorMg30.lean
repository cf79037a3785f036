/-
  The reference of layer 18: Gen. Conditions: the prompt and the draws stand where it looks; few of them.
  Package gen: what Gen and Greedy answer. Conditions: those of say; the draws are there.
-/
import Derived.Test.YtkdkeokldcehhaaGreatDoorMg21
import Derived.Test.YtkdkeokldcehhaaGreatDoorMg23
import Derived.Test.YtkdkeokldcehhaaGreatDoorMg26
import Derived.Test.YtkdkeokldcehhaaGreatDoorMg27
import Derived.Test.YtkdkeokldcehhaaGreatDoorMg29
import Derived.Great.Walk
set_option maxRecDepth 100000
namespace Go.Proofs.YtkdkeokldcehhaaGreatDoor
open Go.ChangeShapes Go.WideShapes Go.ChangeAt Go.RowKit Cf Vc Br Nr Sf Ac Sp Gr Rf
open Gn (genT tokT takeB takeD TakesIn takeB_in takeD_in errG SaidSays genT_end genT_more genT_zero nextZ runS_length)

namespace Gr
/-- A token behind entries of a run can go through the model. -/
theorem step_ok {x : Cfg} {s : ByteArray} {P : List Ent} {pre : List Int} {z : Int} (hp : P = runE x s [] pre) (hz : tokB x z = true) (hl : (pre.length : Int) < x.c) : errZ x P z = 0 := by
  subst hp
  have hz' : 0 ≤ z ∧ z < x.v := by unfold tokB at hz; simpa using hz
  rw [err_all (List.all_eq_true.2 fun e he => runE_good x s pre [] e he), if_pos hz', runE_length, if_pos hl]
theorem run_snoc (x : Cfg) (s : ByteArray) (pre : List Int) (z : Int) : runE x s [] (pre ++ [z]) = runE x s [] pre ++ [entZ x s (runE x s [] pre) z] ∧ runS x s [] (pre ++ [z]) = scoZ x s (runE x s [] pre) z := by
  refine ⟨?_, ?_⟩
  · rw [runE_append, List.nil_append, runE_one]
  · rw [runS_append x s (by simp), List.nil_append]
    rfl
theorem take_snoc' {ts : List Int} {j : Nat} (h : j < ts.length) : ts.take (j + 1) = ts.take j ++ [ts.getD j 0] := by
  rw [List.take_add_one, List.getD_eq_getElem?_getD, List.getElem?_eq_getElem h]
  rfl
def pickT (gr : Bool) (ds : List Int) : Nat → List Int → Int := if gr then takeB else takeD ds
theorem pick_in (gr : Bool) (ds : List Int) : TakesIn (pickT gr ds) := by
  unfold pickT
  cases gr with
  | true => exact takeB_in
  | false => exact takeD_in ds
/-- While the prompt goes through. -/
structure Pr (w W : World) (x : Cfg) (s : ByteArray) (ts : List Int) (pv : Value) (SA : Option Addr) (R : List (Er × Ent)) (sc : List Int) (j : Nat) : Prop where
  sy : Saying w (.slice none 0 0) pv [] R [] W
  past : past R = runE x s [] (ts.take j)
  kin : KIn .i64 W SA sc
  sco : 0 < j → sc = runS x s [] (ts.take j)
/-- A store into the variable of an entry that was made ahead of the call. -/
theorem reg_put {w1 wr W w3 : World} {sv pv : Value} {S : List Int} {R : List (Er × Ent)} {r : Er} {e : Ent} {a b : Value} (h0 : Saying w1 sv pv S R [] wr) (hA : Below wr.heap.size wr W) (hb : Below W.heap.size W w3) (h : Saying w1 sv pv S R [(r, e)] w3) (he : EOn (fun _ => True) w3 r e) (hf : Fr W.heap.size r e) (hlt : wr.heap.size < W.heap.size) :
    Saying w1 sv pv S R [(r, e)] ((w3.setCell ⟨wr.heap.size, 0, none⟩ a).setCell ⟨wr.heap.size, 1, none⟩ b) := by
  refine h.put h0.below.size (fun e => by have := h0.lt.1 _ e; omega) (fun e => by have := h0.lt.2 _ e; omega) (fun q hq => ?_) (fun q hq => ?_) a b
  · exact ((((h0.rows q hq).new).below hA).below hb).mono fun j hj e => by omega
  · rw [List.mem_singleton.1 hq]
    exact (hf.on he).mono fun j hj e => by omega
theorem two_src (w : World) (t : TypeId) (r : Er) (e : Ent) : ∀ j u, (eC r e)[j]? = some u → (w.alloc (.cells #[.slice r.kA e.ks.length r.kc, .slice r.vA e.vs.length r.vc] t)).cell? ((⟨w.heap.size, 0, none⟩ : Addr).add j) = some u := fun j u hj => by
  rw [Addr.add_lit, Nat.zero_add, cell_of_row _ _ _ _ _ _ (heap_alloc_new w _), ← hj]
  exact List.getElem?_toArray
theorem eC_one (r : Er) (e : Ent) : ∀ u ∈ eC r e, u.oneCell' = true := fun u hu => by
  unfold eC at hu
  simp at hu
  rcases hu with rfl | rfl <;> rfl
theorem kin_far {W : World} {A : Option Addr} {zs : List Int} {N : Nat} (h : KIn .i64 W A zs) (hn : ∀ a, A = some a → N ≤ a.block) : Ft (fun i => N ≤ i ∧ i < W.heap.size) A zs.length := fun h0 a ha => ⟨hn a ha, KIn.low h h0 a ha⟩
end Gr
set_option maxRecDepth 100000 in
set_option maxHeartbeats 12800000 in
theorem ref18_gen (w : World) (x : Cfg) (s : ByteArray) (hk : Ok x s) (T : Option Addr) (m d : Nat) (ts : List Int) (M : Nat) (D : Option Addr) (nd cd : Nat) (ds : List Int) (gr : Bool) (hT : ts.length = m) (hm : m ≤ 1000000) (hK : KIn .i64 w T ts) (hd : ds.length = nd) (hD : KIn .i64 w D ds) (he : errG x (M : Int) ts = 0) :
    Calls Tryz.prog 20 #[mdV x s, .slice T m d, .int .i64 (M : Int), .slice D nd cd, .bool gr] w (SaidSays w (genT x s (pickT gr ds) M 0 ts)) := by
  have HB0 := Lib.hid (show Below w.heap.size w (w.alloc (mdO x s)) from (Below.refl _ _).alloc (Nat.le_refl _) _)
  have HH0 := Lib.hid (show (w.alloc (mdO x s)).heap[w.heap.size]? = some (mdO x s) from heap_alloc_new w _)
  have HCK := Lib.hid (fun W (h : Below w.heap.size w W) => show Calls Tryz.prog 46 #[mdV x s, .int .i64 (M : Int), .slice T m d] W fun e w' => e = .returned (.int .i64 0) ∧ Below W.heap.size W w' from by
    have := ref18_check W x s hk T m d ts (M : Int) hT hm (hK.below h (Nat.le_refl _))
    rwa [he] at this)
  obtain ⟨h0, h1, h2, h3, h4⟩ := Gn.errG_ok.1 he
  have HL := Lib.hid (show 0 < m ∧ (m : Int) + (M : Int) ≤ x.c ∧ x.c ≤ 32 ∧ 1 ≤ M ∧ M ≤ 32 from by have := hk.good.is.c32; omega)
  have HALL := Lib.hid h3
  have HST := Lib.hid (fun (W : World) (PA : Option Addr) (n pc : Nat) (R : List (Er × Ent)) (pre : List Int) (z : Int) (hR : R.length = n) (hE : EsIn W PA R) (hp : past R = runE x s [] pre) (hz : tokB x z = true) (hl : (pre.length : Int) < x.c) => ref17_step W x s hk PA n pc R z hR hE (step_ok hp hz hl))
  have HV := Lib.hid (show vN x ≤ 64 ∧ 0 < vN x ∧ (vN x : Int) = x.v by
    have h1 := (dims hk.good.is).2.2.2; have h2 := hk.good.is.v2; have h3 := hk.good.is.v32; omega)
  have HK := Lib.hid hK
  have HT := Lib.hid hT
  have HD := Lib.hid hD
  have HDL := Lib.hid hd
  obtain ⟨i0, hi, hz0, hz1, hz2⟩ := info_parts info_int
  obtain ⟨j0, hj, hy0, hy1, hy2⟩ := info_parts info_entryR
  have HI := Lib.hid hi
  have HZ0 := Lib.hid hz0
  have HZ1 := Lib.hid hz1
  have HZ2 := Lib.hid hz2
  have HJ := Lib.hid hj
  have HY0 := Lib.hid hy0
  have HY1 := Lib.hid hy1
  have HY2 := Lib.hid hy2
  unfold mdV at HCK HST ⊢
  have HW0 := Lib.hid (show (w.alloc (mdO x s)).heap.size = w.heap.size + 1 by simp)
  obtain ⟨e0, e1, e2, e3, e4, e5, e6⟩ := Rf.seven HH0.out
  unfold mdO at HB0 HH0 HW0 e0 e1 e2 e3 e4 e5 e6
  unfold brA at HCK HST HB0 HH0 HW0 e0 e1 e2 e3 e4 e5 e6 ⊢
  clear hk hT hm hK hd hD he h0 h1 h2 h3 h4 hi hz0 hz1 hz2 hj hy0 hy1 hy2
  have HTI := Lib.hid (pick_in gr ds)
  have HTK := Lib.hid (fun i (sc : List Int) => show pickT gr ds i sc = if gr = true then bestL sc else nextZ (ds.getD i 0) sc from by unfold pickT; cases gr <;> rfl)
  generalize pickT gr ds = tk at HTI HTK ⊢
  go_enter Tryz.func20, Tryz.ntmps20
  go_wp2_with (fail)
  generalize w.alloc (.cells #[.int .i64 x.v, .int .i64 x.d, .int .i64 x.h, .int .i64 x.b, .int .i64 x.n, .int .i64 x.c, .string s] 35) = w1 at HB0 HH0 HW0 ⊢
  refine (HCK.out w1 HB0.out).mono ?_
  rintro e w2 ⟨rfl, b2⟩
  have B2 := Lib.hid b2
  have HS2 := Lib.hid (Saying.begins w1 w2 b2)
  clear b2 HCK e0 e1 e2 e3 e4 e5 e6
  have HS3 := Lib.hid (show Saying w1 (.slice none 0 0) (.slice (some ⟨w2.heap.size, 0, none⟩) 0 0) [] [] [] ((w2.alloc (.cells #[] 42)).alloc (.cells #[] 3)) from HS2.out.step ((Below.refl _ _).alloc (Nat.le_refl _) _))
  go_wp2_with (first | (refine wpList_buildNone rfl 36 42 rfl j0 Tryz.underlying36 HJ.out ?_) | (refine wpList_buildNone rfl 45 3 rfl i0 Tryz.underlying45 HI.out ?_))
  go_loopw [13, 14, 15] (fun pv sv i wr => ∃ (j : Nat) (PA : Option Addr) (pc : Nat) (SA : Option Addr) (k q : Nat) (R : List (Er × Ent)) (sc : List Int), i = .int .i64 (j : Int) ∧ pv = .slice PA j pc ∧ sv = .slice SA k q ∧ j ≤ m ∧ R.length = j ∧ sc.length = k ∧ Pr w1 wr x s ts (.slice PA j pc) SA R sc j) (fun _ _ i _ => match i with | .int _ k => m - k.toNat | _ => 0)
  case atStart => exact ⟨0, _, 0, _, 0, 0, [], [], rfl, rfl, rfl, Nat.zero_le _, rfl, rfl, ⟨HS3.out, rfl, KIn.nil _ _ _, fun h => absurd h (Nat.lt_irrefl 0)⟩⟩
  case round =>
    clear HS2 HS3 B2
    obtain ⟨j, PA, pc, SA, k, q, R, sc, rfl, rfl, rfl, hj, hR, hS, hpr⟩ := hrel
    have HR := Lib.hid hR
    have HS := Lib.hid hS
    have HPR := Lib.hid hpr
    clear hR hS hpr
    have x2 : 0 ≤ (j : Int) := by omega
    by_cases hlt : j < m
    · have x0 : (j : Int) < (m : Int) := by omega
      have x1 : decide ((j : Int) < (m : Int)) = true := decide_eq_true x0
      have hjl : j < ts.length := by rw [HT.out]; exact hlt
      have HTS := Lib.hid (take_snoc' hjl)
      have HZB := Lib.hid (show tokB x (ts.getD j 0) = true from List.all_eq_true.1 HALL.out _ (by rw [List.getD_eq_getElem?_getD, List.getElem?_eq_getElem hjl]; exact List.getElem_mem hjl))
      have HPL := Lib.hid (show ((ts.take j).length : Int) < x.c from by rw [List.length_take, HT.out]; have := HL.out; omega)
      have HBW := Lib.hid (show Below w.heap.size w wr from HB0.out.trans (HPR.out.sy.below.mono (by rw [HW0.out]; omega)))
      obtain ⟨pa, oa, rfl, hc⟩ := HK.out.at hjl
      have hpa := block_lt_of_cell hc
      have HJ1 := Lib.hid (show j + 1 ≤ m by omega)
      have HW1 := Lib.hid (IntWalk.wrap64_in ((j : Int) + 1) (by have := HL.out; omega))
      generalize ts.getD j 0 = z at hc HTS HZB
      have HKP := Lib.hid (fun (W : World) (hW : Below w1.heap.size w1 W) => show (W.cell? ⟨w.heap.size, 0, none⟩ = some (.int .i64 x.v) ∧ W.cell? ⟨w.heap.size, 1, none⟩ = some (.int .i64 x.d) ∧ W.cell? ⟨w.heap.size, 2, none⟩ = some (.int .i64 x.h) ∧ W.cell? ⟨w.heap.size, 3, none⟩ = some (.int .i64 x.b) ∧ W.cell? ⟨w.heap.size, 4, none⟩ = some (.int .i64 x.n) ∧ W.cell? ⟨w.heap.size, 5, none⟩ = some (.int .i64 x.c) ∧ W.cell? ⟨w.heap.size, 6, none⟩ = some (.string s)) ∧ W.cell? ⟨pa, oa + j, none⟩ = some (.int .i64 z) from
        ⟨Rf.seven (show W.heap[w.heap.size]? = some (mdO x s) from Rf.stays HH0.out hW), ((HB0.out.trans (hW.mono (by rw [HW0.out]; omega))).cell (p := ⟨pa, oa + j, none⟩) hpa).trans hc⟩)
      have HBD := Lib.hid (show Below wr.heap.size wr wr.drew from below_drewN (Below.refl _ _) 1)
      have HSD := Lib.hid (HPR.out.sy.step HBD.out)
      have k0 := HKP.out _ HSD.out.below
      have HRUN := Lib.hid (fun (W : World) (hW : Below wr.heap.size wr W) => HST.out W PA j pc R (ts.take j) z HR.out (HPR.out.sy.step hW).ga.es HPR.out.past HZB.out HPL.out)
      unfold RefSays eV at HRUN
      clear hc hjl hlt hpa
      go_wp2_with (fail)
      -- HAND
      refine wp_region_noPanic ?_
      refine wp_region_held_drew (S := (fun W : World => (W.cell? ⟨w.heap.size, 0, none⟩ = some (.int .i64 x.v) ∧ W.cell? ⟨w.heap.size, 1, none⟩ = some (.int .i64 x.d) ∧ W.cell? ⟨w.heap.size, 2, none⟩ = some (.int .i64 x.h) ∧ W.cell? ⟨w.heap.size, 3, none⟩ = some (.int .i64 x.b) ∧ W.cell? ⟨w.heap.size, 4, none⟩ = some (.int .i64 x.n) ∧ W.cell? ⟨w.heap.size, 5, none⟩ = some (.int .i64 x.c) ∧ W.cell? ⟨w.heap.size, 6, none⟩ = some (.string s)) ∧ W.cell? ⟨pa, oa + j, none⟩ = some (.int .i64 z))) (by kernel_rfl) k0 (fun hHeld => ?_)
      refine wpAnyH_takeAt (i := 0) (v := .agg #[.int .i64 x.v, .int .i64 x.d, .int .i64 x.h, .int .i64 x.b, .int .i64 x.n, .int .i64 x.c, .string s]) 41 rfl rfl (by kernel_rfl) (by kernel_rfl) (by kernel_rfl) (fun _ _ _ h => h) (Or.inl ⟨by rfl, ?_⟩) hHeld ?_
      · intro W hW
        try dsimp only at hW
        go_simp
      simp only [Act.put, List.setIfInBounds_toArray, List.set_cons_succ, List.set_cons_zero]
      refine wpAnyH_takeAt (i := 1) (v := .slice PA j pc) 42 rfl rfl (by kernel_rfl) (by kernel_rfl) (by kernel_rfl) (fun _ _ _ h => h) (Or.inl ⟨by rfl, ?_⟩) hHeld ?_
      · intro W hW
        try dsimp only at hW
        go_simp
      simp only [Act.put, List.setIfInBounds_toArray, List.set_cons_succ, List.set_cons_zero]
      refine wpAnyH_takeAt (i := 2) (v := .slice (some ⟨pa, oa, none⟩) m d) 43 rfl rfl (by kernel_rfl) (by kernel_rfl) (by kernel_rfl) (fun _ _ _ h => h) (Or.inl ⟨by rfl, ?_⟩) hHeld ?_
      · intro W hW
        try dsimp only at hW
        go_simp
      simp only [Act.put, List.setIfInBounds_toArray, List.set_cons_succ, List.set_cons_zero]
      refine wpAnyH_takeAt (i := 3) (v := .int .i64 (j : Int)) 44 rfl rfl (by kernel_rfl) (by kernel_rfl) (by kernel_rfl) (fun _ _ _ h => h) (Or.inl ⟨by rfl, ?_⟩) hHeld ?_
      · intro W hW
        try dsimp only at hW
        go_simp
      simp only [Act.put, List.setIfInBounds_toArray, List.set_cons_succ, List.set_cons_zero]
      refine wpAnyH_takeAt (i := 4) (v := .pointer (some ⟨pa, oa + j, none⟩)) 45 rfl rfl (by kernel_rfl) (by kernel_rfl) (by kernel_rfl) (fun _ _ _ h => h) (Or.inl ⟨by rfl, ?_⟩) hHeld ?_
      · intro W hW
        try dsimp only at hW
        go_simp
      simp only [Act.put, List.setIfInBounds_toArray, List.set_cons_succ, List.set_cons_zero]
      refine wpAnyH_takeAt (i := 5) (v := .int .i64 z) 46 rfl rfl (by kernel_rfl) (by kernel_rfl) (by kernel_rfl) (fun _ _ _ h => h) (Or.inl ⟨by rfl, ?_⟩) hHeld ?_
      · intro W hW
        try dsimp only at hW
        go_simp
      simp only [Act.put, List.setIfInBounds_toArray, List.set_cons_succ, List.set_cons_zero]
      refine wpAnyH_ready (rs := [6, 11]) (by kernel_rfl) (by simp) ?_
      refine AllReadyH.cons rfl (fun K hK => ?_) (AllReadyH.cons rfl (fun K hK => ?_) AllReadyH.nil)
      · go_simp
        refine (HRUN.out _ HBD.out).mono ?_
        rintro e w3 ⟨r, SA3, q3, rfl, he3, hk3, hl3, hf3, hn3, b3⟩
        have HSY3 := Lib.hid ((HPR.out.sy.step HBD.out).come (F := [(r, entZ x s (past R) z)]) b3 (fun q hq => by rw [List.mem_singleton.1 hq]; exact he3) (fun q hq => by rw [List.mem_singleton.1 hq]; exact hf3))
        have k3 := HKP.out _ HSY3.out.below
        have HK3 := Lib.hid hk3
        have HL3 := Lib.hid hl3
        have HE3 := Lib.hid he3
        have HF3 := Lib.hid hf3
        have HB3 := Lib.hid b3
        have HN3 := Lib.hid (show ∀ a, SA3 = some a → wr.heap.size ≤ a.block from fun a ha => Nat.le_trans HBD.out.size (hn3 a ha))
        clear he3 hk3 hl3 hf3 hn3 b3
        refine hK.out _ _ k3 (fun hHeld2 => ?_)
        clear hK K hHeld
        have hHeld := hHeld2
        clear hHeld2
        try simp only [Act.put, List.setIfInBounds_toArray, List.set_cons_succ, List.set_cons_zero]
        refine wpAnyH_takeAt (i := 7) (v := .tuple #[.agg #[.slice r.kA (entZ x s (past R) z).ks.length r.kc, .slice r.vA (entZ x s (past R) z).vs.length r.vc], .slice SA3 (vN x) q3, .int .i64 0]) 40 rfl rfl (by kernel_rfl) (by kernel_rfl) (by kernel_rfl) (fun _ _ _ h => h) (Or.inl ⟨by rfl, ?_⟩) hHeld ?_
        · intro W hW
          try dsimp only at hW
          go_simp
        simp only [Act.put, List.setIfInBounds_toArray, List.set_cons_succ, List.set_cons_zero]
        refine wpAnyH_takeAt (i := 8) (v := .agg #[.slice r.kA (entZ x s (past R) z).ks.length r.kc, .slice r.vA (entZ x s (past R) z).vs.length r.vc]) 48 rfl rfl (by kernel_rfl) (by kernel_rfl) (by kernel_rfl) (fun _ _ _ h => h) (Or.inl ⟨by rfl, ?_⟩) hHeld ?_
        · intro W hW
          try dsimp only at hW
          go_simp
        simp only [Act.put, List.setIfInBounds_toArray, List.set_cons_succ, List.set_cons_zero]
        refine wpAnyH_takeAt (i := 9) (v := .slice SA3 (vN x) q3) 49 rfl rfl (by kernel_rfl) (by kernel_rfl) (by kernel_rfl) (fun _ _ _ h => h) (Or.inl ⟨by rfl, ?_⟩) hHeld ?_
        · intro W hW
          try dsimp only at hW
          go_simp
        simp only [Act.put, List.setIfInBounds_toArray, List.set_cons_succ, List.set_cons_zero]
        refine wpAnyH_takeAt (i := 10) (v := .int .i64 0) 50 rfl rfl (by kernel_rfl) (by kernel_rfl) (by kernel_rfl) (fun _ _ _ h => h) (Or.inl ⟨by rfl, ?_⟩) hHeld ?_
        · intro W hW
          try dsimp only at hW
          go_simp
        simp only [Act.put, List.setIfInBounds_toArray, List.set_cons_succ, List.set_cons_zero]
        refine wpAnyH_ready (rs := [11]) (by kernel_rfl) (by simp) ?_
        refine AllReadyH.cons rfl (fun K hK => ?_) AllReadyH.nil
        go_simp
        refine hK.out _ _ (HKP.out _ (HSY3.out.below.alloc HSY3.out.below.size _)) (fun hHeld2 => ?_)
        clear hK K hHeld
        have hHeld := hHeld2
        clear hHeld2
        try simp only [Act.put, List.setIfInBounds_toArray, List.set_cons_succ, List.set_cons_zero]
        refine wpAnyH_ready (rs := [12]) (by kernel_rfl) (by simp) ?_
        refine AllReadyH.cons rfl (fun K hK => ?_) AllReadyH.nil
        go_simp
        refine hK.out _ _ (HKP.out _ (HSY3.out.below.alloc HSY3.out.below.size _)) (fun hHeld2 => ?_)
        clear hK K hHeld
        have hHeld := hHeld2
        clear hHeld2
        try simp only [Act.put, List.setIfInBounds_toArray, List.set_cons_succ, List.set_cons_zero]
        refine wpAnyH_takeAt (i := 13) (v := .slice SA3 (vN x) q3) 17 rfl rfl (by kernel_rfl) (by kernel_rfl) (by kernel_rfl) (fun _ _ _ h => h) (Or.inl ⟨by rfl, ?_⟩) hHeld ?_
        · intro W hW
          try dsimp only at hW
          go_simp
        simp only [Act.put, List.setIfInBounds_toArray, List.set_cons_succ, List.set_cons_zero]
        refine wpAnyH_takeAt (i := 14) (v := .int .i64 0) 18 rfl rfl (by kernel_rfl) (by kernel_rfl) (by kernel_rfl) (fun _ _ _ h => h) (Or.inl ⟨by rfl, ?_⟩) hHeld ?_
        · intro W hW
          try dsimp only at hW
          go_simp
        simp only [Act.put, List.setIfInBounds_toArray, List.set_cons_succ, List.set_cons_zero]
        have HP4 := Lib.hid (HSY3.out.step ((Below.refl w3.heap.size w3).alloc (Nat.le_refl _) (.cells #[.slice r.kA (entZ x s (past R) z).ks.length r.kc, .slice r.vA (entZ x s (past R) z).vs.length r.vc] 42)))
        have HK4 := Lib.hid (HK3.out.below ((Below.refl w3.heap.size w3).alloc (Nat.le_refl _) (.cells #[.slice r.kA (entZ x s (past R) z).ks.length r.kc, .slice r.vA (entZ x s (past R) z).vs.length r.vc] 42)) (Nat.le_refl _))
        have HX4 := Lib.hid (heap_alloc_new w3 (.cells #[.slice r.kA (entZ x s (past R) z).ks.length r.kc, .slice r.vA (entZ x s (past R) z).vs.length r.vc] 42))
        refine wpAnyH_done (by kernel_rfl) ?_ _
        refine NoPanic.normal ?_
        generalize hW4 : w3.alloc (.cells #[.slice r.kA (entZ x s (past R) z).ks.length r.kc, .slice r.vA (entZ x s (past R) z).vs.length r.vc] 42) = w4 at HP4 HK4 HX4 ⊢
        have HE4 := Lib.hid (rf0 HX4.out)
        have HE5 := Lib.hid (rf1 HX4.out)
        have c0 := HE4.out
        have c1 := HE5.out
        clear hHeld hW4
        have HR4 := Lib.hid (show w4.ownsRow w1.heap.size 42 2 (.slice PA j pc) j (eCs R) from by have h1 := HP4.out.ga.own; rw [HR.out] at h1; exact h1)
        have HZ4 := Lib.hid HP4.out.below.size
        go_wp2_with (first | (refine Great.wpList_buildSliceTo rfl 36 42 1 #[(0, .tmp 52)] rfl _ rfl (some 53) rfl Tryz.underlying36 #[.slice r.kA (entZ x s (past R) z).ks.length r.kc, .slice r.vA (entZ x s (past R) z).vs.length r.vc] (entryROne _ _ _ _ _ _) ?_) | (at_builtin; refine wpList_append_lies _ rfl (.tmp 51) (.tmp 53) 36 rfl w1.heap.size 42 j0 _ 2 48 Tryz.underlying36 HJ.out HY0.out HY1.out HY2.out rfl (by omega) (.slice PA j pc) j (eCs R) rfl (HR4.out.alloc _) ⟨w4.heap.size, 0, none⟩ 1 1 (eC r (entZ x s (past R) z)) rfl rfl (two_src w4 _ r _) (eC_one r _) Nat.one_pos (by have := HL.out; have := HJ1.out; unfold maxLen; omega) (by have := HL.out; have := HJ1.out; omega) (by simp; exact Nat.le_succ_of_le HZ4.out) _ rfl ?_; intro g5 c5 w5 hown5 hg5 hat5 hl5))
        have HP5 := Lib.hid (show Saying w1 (.slice none 0 0) (.slice (some ⟨g5, 0, none⟩) (j + 1) c5) [] (R ++ [(r, entZ x s (past R) z)]) [] w5 from by
          have h1 := (HP4.out.step ((Below.refl w4.heap.size w4).alloc (Nat.le_refl _) (.cells #[.slice r.kA (entZ x s (past R) z).ks.length r.kc, .slice r.vA (entZ x s (past R) z).vs.length r.vc] 42))).laid (g := g5) (cap := c5) (wz := w5) (by rw [HR.out]; exact hown5) hg5 hat5
          rw [HR.out] at h1
          exact h1)
        have HK5 := Lib.hid (show KIn .i64 w5 SA3 (scoZ x s (past R) z) from KIn.moved HK4.out (kin_far HK4.out HN3.out) (fun i hi => (hg5.block i (by have := hi.2; simp; omega) (fun e => by have := HPR.out.sy.lt.2 i e.symm; have := hi.1; omega)).trans (Below.heap_alloc w4 _ i hi.2)))
        have hrs := run_snoc x s (ts.take j) z
        rw [← HTS.out, ← HPR.out.past] at hrs
        have HRS := Lib.hid hrs
        clear hown5 hg5 hat5 hl5 hrs
        try rw [HW1.out]
        exact ⟨⟨j + 1, _, c5, SA3, vN x, q3, R ++ [(r, entZ x s (past R) z)], scoZ x s (past R) z, rfl, rfl, rfl, HJ1.out, by rw [List.length_append, HR.out]; rfl, HL3.out, ⟨HP5.out, by rw [past_append, HRS.out.1]; rfl, HK5.out, fun _ => HRS.out.2.symm⟩⟩, vc_less j m HJ1.out⟩
      · go_simp
        have HBA := Lib.hid (HBD.out.alloc HBD.out.size (.cells #[.slice none 0 0, .slice none 0 0] 42))
        refine hK.out _ _ (HKP.out _ (HPR.out.sy.step HBA.out).below) (fun hHeld2 => ?_)
        clear hK K hHeld
        have hHeld := hHeld2
        clear hHeld2
        try simp only [Act.put, List.setIfInBounds_toArray, List.set_cons_succ, List.set_cons_zero]
        refine wpAnyH_ready (rs := [6]) (by kernel_rfl) (by simp) ?_
        refine AllReadyH.cons rfl (fun K hK => ?_) AllReadyH.nil
        go_simp
        refine (HRUN.out _ HBA.out).mono ?_
        rintro e w3 ⟨r, SA3, q3, rfl, he3, hk3, hl3, hf3, hn3, b3⟩
        have HSY3 := Lib.hid ((HPR.out.sy.step HBA.out).come (F := [(r, entZ x s (past R) z)]) b3 (fun q hq => by rw [List.mem_singleton.1 hq]; exact he3) (fun q hq => by rw [List.mem_singleton.1 hq]; exact hf3))
        have k3 := HKP.out _ HSY3.out.below
        have HK3 := Lib.hid hk3
        have HL3 := Lib.hid hl3
        have HE3 := Lib.hid he3
        have HF3 := Lib.hid hf3
        have HB3 := Lib.hid b3
        have HN3 := Lib.hid (show ∀ a, SA3 = some a → wr.heap.size ≤ a.block from fun a ha => Nat.le_trans HBA.out.size (hn3 a ha))
        clear he3 hk3 hl3 hf3 hn3 b3
        refine hK.out _ _ k3 (fun hHeld2 => ?_)
        clear hK K hHeld
        have hHeld := hHeld2
        clear hHeld2
        try simp only [Act.put, List.setIfInBounds_toArray, List.set_cons_succ, List.set_cons_zero]
        refine wpAnyH_takeAt (i := 7) (v := .tuple #[.agg #[.slice r.kA (entZ x s (past R) z).ks.length r.kc, .slice r.vA (entZ x s (past R) z).vs.length r.vc], .slice SA3 (vN x) q3, .int .i64 0]) 40 rfl rfl (by kernel_rfl) (by kernel_rfl) (by kernel_rfl) (fun _ _ _ h => h) (Or.inl ⟨by rfl, ?_⟩) hHeld ?_
        · intro W hW
          try dsimp only at hW
          go_simp
        simp only [Act.put, List.setIfInBounds_toArray, List.set_cons_succ, List.set_cons_zero]
        refine wpAnyH_takeAt (i := 8) (v := .agg #[.slice r.kA (entZ x s (past R) z).ks.length r.kc, .slice r.vA (entZ x s (past R) z).vs.length r.vc]) 48 rfl rfl (by kernel_rfl) (by kernel_rfl) (by kernel_rfl) (fun _ _ _ h => h) (Or.inl ⟨by rfl, ?_⟩) hHeld ?_
        · intro W hW
          try dsimp only at hW
          go_simp
        simp only [Act.put, List.setIfInBounds_toArray, List.set_cons_succ, List.set_cons_zero]
        refine wpAnyH_takeAt (i := 9) (v := .slice SA3 (vN x) q3) 49 rfl rfl (by kernel_rfl) (by kernel_rfl) (by kernel_rfl) (fun _ _ _ h => h) (Or.inl ⟨by rfl, ?_⟩) hHeld ?_
        · intro W hW
          try dsimp only at hW
          go_simp
        simp only [Act.put, List.setIfInBounds_toArray, List.set_cons_succ, List.set_cons_zero]
        refine wpAnyH_takeAt (i := 10) (v := .int .i64 0) 50 rfl rfl (by kernel_rfl) (by kernel_rfl) (by kernel_rfl) (fun _ _ _ h => h) (Or.inl ⟨by rfl, ?_⟩) hHeld ?_
        · intro W hW
          try dsimp only at hW
          go_simp
        simp only [Act.put, List.setIfInBounds_toArray, List.set_cons_succ, List.set_cons_zero]
        have HXA := Lib.hid (show w3.heap[wr.heap.size]? = some (.cells #[.slice none 0 0, .slice none 0 0] 42 (0, 0)) from (HB3.out.block _ (by show wr.heap.size < (wr.drew.alloc _).heap.size; rw [World.size_alloc]; exact Nat.lt_succ_self _)).trans (heap_alloc_new wr.drew _))
        have g0 := rf0 HXA.out
        have g1 := rf1 HXA.out
        have g2 := rfFz HXA.out
        have HWG := Lib.hid (show w1.heap.size ≤ wr.heap.size from HPR.out.sy.below.size)
        refine wpAnyH_ready (rs := [12]) (by kernel_rfl) (by simp) ?_
        refine AllReadyH.cons rfl (fun K hK => ?_) AllReadyH.nil
        go_simp
        refine hK.out _ _ (HKP.out _ ((HSY3.out.below.setCell (p := ⟨wr.heap.size, 0, none⟩) HWG.out _).setCell (p := ⟨wr.heap.size, 1, none⟩) HWG.out _)) (fun hHeld2 => ?_)
        clear hK K hHeld
        have hHeld := hHeld2
        clear hHeld2
        try simp only [Act.put, List.setIfInBounds_toArray, List.set_cons_succ, List.set_cons_zero]
        refine wpAnyH_takeAt (i := 13) (v := .slice SA3 (vN x) q3) 17 rfl rfl (by kernel_rfl) (by kernel_rfl) (by kernel_rfl) (fun _ _ _ h => h) (Or.inl ⟨by rfl, ?_⟩) hHeld ?_
        · intro W hW
          try dsimp only at hW
          go_simp
        simp only [Act.put, List.setIfInBounds_toArray, List.set_cons_succ, List.set_cons_zero]
        refine wpAnyH_takeAt (i := 14) (v := .int .i64 0) 18 rfl rfl (by kernel_rfl) (by kernel_rfl) (by kernel_rfl) (fun _ _ _ h => h) (Or.inl ⟨by rfl, ?_⟩) hHeld ?_
        · intro W hW
          try dsimp only at hW
          go_simp
        simp only [Act.put, List.setIfInBounds_toArray, List.set_cons_succ, List.set_cons_zero]
        clear g0 g1 g2
        have HP4 := Lib.hid (reg_put (a := .slice r.kA (entZ x s (past R) z).ks.length r.kc) (b := .slice r.vA (entZ x s (past R) z).vs.length r.vc) HPR.out.sy HBA.out HB3.out HSY3.out HE3.out HF3.out (by show wr.heap.size < (wr.drew.alloc _).heap.size; rw [World.size_alloc]; exact Nat.lt_succ_self _))
        have HK4 := Lib.hid (show KIn .i64 ((w3.setCell ⟨wr.heap.size, 0, none⟩ (.slice r.kA (entZ x s (past R) z).ks.length r.kc)).setCell ⟨wr.heap.size, 1, none⟩ (.slice r.vA (entZ x s (past R) z).vs.length r.vc)) SA3 (scoZ x s (past R) z) from KIn.moved HK3.out (kin_off HK3.out HXA.out) (fun i hi => (heap_setCell_other _ ⟨wr.heap.size, 1, none⟩ i _ hi).trans (heap_setCell_other _ ⟨wr.heap.size, 0, none⟩ i _ hi)))
        have HX4 := Lib.hid (rfSet2 HXA.out (.slice r.kA (entZ x s (past R) z).ks.length r.kc) (.slice r.vA (entZ x s (past R) z).vs.length r.vc))
        refine wpAnyH_done (by kernel_rfl) ?_ _
        refine NoPanic.normal ?_
        generalize hW4 : (w3.setCell ⟨wr.heap.size, 0, none⟩ (.slice r.kA (entZ x s (past R) z).ks.length r.kc)).setCell ⟨wr.heap.size, 1, none⟩ (.slice r.vA (entZ x s (past R) z).vs.length r.vc) = w4 at HP4 HK4 HX4 ⊢
        have HE4 := Lib.hid (rf0 HX4.out)
        have HE5 := Lib.hid (rf1 HX4.out)
        have c0 := HE4.out
        have c1 := HE5.out
        clear hHeld hW4
        have HR4 := Lib.hid (show w4.ownsRow w1.heap.size 42 2 (.slice PA j pc) j (eCs R) from by have h1 := HP4.out.ga.own; rw [HR.out] at h1; exact h1)
        have HZ4 := Lib.hid HP4.out.below.size
        go_wp2_with (first | (refine Great.wpList_buildSliceTo rfl 36 42 1 #[(0, .tmp 52)] rfl _ rfl (some 53) rfl Tryz.underlying36 #[.slice r.kA (entZ x s (past R) z).ks.length r.kc, .slice r.vA (entZ x s (past R) z).vs.length r.vc] (entryROne _ _ _ _ _ _) ?_) | (at_builtin; refine wpList_append_lies _ rfl (.tmp 51) (.tmp 53) 36 rfl w1.heap.size 42 j0 _ 2 48 Tryz.underlying36 HJ.out HY0.out HY1.out HY2.out rfl (by omega) (.slice PA j pc) j (eCs R) rfl (HR4.out.alloc _) ⟨w4.heap.size, 0, none⟩ 1 1 (eC r (entZ x s (past R) z)) rfl rfl (two_src w4 _ r _) (eC_one r _) Nat.one_pos (by have := HL.out; have := HJ1.out; unfold maxLen; omega) (by have := HL.out; have := HJ1.out; omega) (by simp; exact Nat.le_succ_of_le HZ4.out) _ rfl ?_; intro g5 c5 w5 hown5 hg5 hat5 hl5))
        have HP5 := Lib.hid (show Saying w1 (.slice none 0 0) (.slice (some ⟨g5, 0, none⟩) (j + 1) c5) [] (R ++ [(r, entZ x s (past R) z)]) [] w5 from by
          have h1 := (HP4.out.step ((Below.refl w4.heap.size w4).alloc (Nat.le_refl _) (.cells #[.slice r.kA (entZ x s (past R) z).ks.length r.kc, .slice r.vA (entZ x s (past R) z).vs.length r.vc] 42))).laid (g := g5) (cap := c5) (wz := w5) (by rw [HR.out]; exact hown5) hg5 hat5
          rw [HR.out] at h1
          exact h1)
        have HK5 := Lib.hid (show KIn .i64 w5 SA3 (scoZ x s (past R) z) from KIn.moved HK4.out (kin_far HK4.out HN3.out) (fun i hi => (hg5.block i (by have := hi.2; simp; omega) (fun e => by have := HPR.out.sy.lt.2 i e.symm; have := hi.1; omega)).trans (Below.heap_alloc w4 _ i hi.2)))
        have hrs := run_snoc x s (ts.take j) z
        rw [← HTS.out, ← HPR.out.past] at hrs
        have HRS := Lib.hid hrs
        clear hown5 hg5 hat5 hl5 hrs
        try rw [HW1.out]
        exact ⟨⟨j + 1, _, c5, SA3, vN x, q3, R ++ [(r, entZ x s (past R) z)], scoZ x s (past R) z, rfl, rfl, rfl, HJ1.out, by rw [List.length_append, HR.out]; rfl, HL3.out, ⟨HP5.out, by rw [past_append, HRS.out.1]; rfl, HK5.out, fun _ => HRS.out.2.symm⟩⟩, vc_less j m HJ1.out⟩
      -- DNAH
    · have hje : j = m := by omega
      subst hje
      have x0 : ¬ (j : Int) < (j : Int) := by omega
      have x1 : decide ((j : Int) < (j : Int)) = false := decide_eq_false x0
      have htk : ts.take j = ts := List.take_of_length_le (by rw [HT.out]; exact Nat.le_refl _)
      have HPA := Lib.hid (show past R = runE x s [] (ts ++ []) from by rw [HPR.out.past, htk, List.append_nil])
      have HSC := Lib.hid (show sc = runS x s [] (ts ++ []) from by rw [HPR.out.sco (by have := HL.out; omega), htk, List.append_nil])
      have HSL := Lib.hid (show sc.length = vN x from by rw [HSC.out]; exact runS_length x s _ _ (by intro e; have h5 := congrArg List.length e; rw [List.length_append, HT.out] at h5; have h6 := HL.out.1; simp only [List.length_nil, Nat.add_zero] at h5; omega))
      have HSO := Lib.hid (Saying.opens HPR.out.sy)
      have HKO := Lib.hid (show KIn .i64 (wr.alloc (.cells #[] 3)) SA sc from HPR.out.kin.below ((Below.refl wr.heap.size wr).alloc (Nat.le_refl _) _) (Nat.le_refl _))
      have hkv : k = vN x := by rw [← HS.out, HSL.out]
      subst hkv
      clear htk hj
      go_wp2_with (refine wpList_buildNone rfl 45 3 rfl i0 Tryz.underlying45 HI.out ?_)
      go_loopw [13, 14, 19] (fun pv sv ov wq => ∃ (k r : Nat) (PA : Option Addr) (pc : Nat) (SA : Option Addr) (q : Nat) (OA : Option Addr) (oc : Nat) (S : List Int) (R : List (Er × Ent)) (sc : List Int), pv = .slice PA r pc ∧ sv = .slice SA (vN x) q ∧ ov = .slice OA k oc ∧ S.length = k ∧ R.length = r ∧ sc.length = vN x ∧ k < M ∧ Saying w1 (.slice OA k oc) (.slice PA r pc) S R [] wq ∧ past R = runE x s [] (ts ++ S) ∧ KIn .i64 wq SA sc ∧ sc = runS x s [] (ts ++ S) ∧ genT x s tk M 0 ts = S ++ genT x s tk (M - k) k (ts ++ S) ∧ (ts ++ S).all (tokB x) = true) (fun _ _ ov _ => match ov with | .slice _ n _ => M - n | _ => 0)
      case atStart => exact ⟨0, j, PA, pc, SA, q, _, 0, [], R, sc, rfl, rfl, rfl, rfl, HR.out, HSL.out, by have := HL.out; omega, HSO.out, HPA.out, HKO.out, HSC.out, by rw [List.append_nil]; rfl, by rw [List.append_nil]; exact HALL.out⟩
      case round =>
        clear HSO HKO HSC HPA HSL HPR HR HS
        obtain ⟨k, r, PA, pc, SA, q, OA, oc, S, R, sc, rfl, rfl, rfl, hS, hR, hsl, hkM, hsy, hpa, hki, hsc, hgen, hall⟩ := hrel
        have HS := Lib.hid hS
        have HR := Lib.hid hR
        have HSL := Lib.hid hsl
        have HKM := Lib.hid hkM
        have HSY := Lib.hid hsy
        have HPA := Lib.hid hpa
        have HKI := Lib.hid hki
        have HSC := Lib.hid hsc
        have HGEN := Lib.hid hgen
        have HAL := Lib.hid hall
        have HBW := Lib.hid (show Below w.heap.size w wr from HB0.out.trans (hsy.below.mono (by rw [HW0.out]; omega)))
        have HCAP := Lib.hid (show k ≤ oc from own_capR (by rw [← hS]; rw [← hS] at hsy; exact hsy.own))
        have HLEN := Lib.hid (show ((ts ++ S).length : Int) < x.c from by rw [List.length_append, HT.out, hS]; have := HL.out; omega)
        have HRK := Lib.hid (show r = j + k from by
          have := congrArg List.length hpa
          rw [past_length, runE_length, List.length_append, HT.out, hS, hR] at this
          exact this)
        have HIN := Lib.hid (show 0 ≤ tk k sc ∧ tk k sc < x.v from by
          have h1 := HTI.out k sc (by rw [hsl]; exact HV.out.2.1) (by rw [hsl]; exact HV.out.1)
          rw [hsl, HV.out.2.2] at h1
          exact h1)
        have HTO := Lib.hid (show tokT x s tk k (ts ++ S) = tk k sc from by rw [hsc]; rfl)
        have HG1 := Lib.hid (fun hz : tk k sc = 0 => show genT x s tk M 0 ts = S by rw [hgen, genT_end x s tk (by rw [HTO.out]; exact hz), List.append_nil])
        have HG2 := Lib.hid (fun hz : tk k sc ≠ 0 => show genT x s tk M 0 ts = (S ++ [tk k sc]) ++ genT x s tk (M - (k + 1)) (k + 1) (ts ++ (S ++ [tk k sc])) by
          obtain ⟨n, hn⟩ : ∃ n, M - k = n + 1 := ⟨M - k - 1, by omega⟩
          rw [hgen, hn, genT_more x s tk (by rw [HTO.out]; exact hz), HTO.out, show M - (k + 1) = n by omega, List.append_assoc, List.append_assoc, List.singleton_append])
        have HNX := Lib.hid (fun W (hW : Below wr.heap.size wr W) => show Calls Tryz.prog 47 #[.int .i64 (ds.getD k 0), .slice SA (vN x) q] W fun e w' => e = .returned (.int .i64 (nextZ (ds.getD k 0) sc)) ∧ Below W.heap.size W w' from
          ref18_next W (ds.getD k 0) SA (vN x) q sc HSL.out HV.out.1 (HKI.out.below hW (Nat.le_refl _)))
        have HBE := Lib.hid (fun W (hW : Below wr.heap.size wr W) => show Calls Tryz.prog 48 #[.slice SA (vN x) q] W fun e w' => e = .returned (.int .i64 (bestL sc)) ∧ Below W.heap.size W w' from
          (ref12_best W SA (vN x) q sc HSL.out (by have := HV.out.1; omega) (HKI.out.below hW (Nat.le_refl _))).mono fun e w' ⟨h1, d, h2⟩ => ⟨h1, by rw [h2]; exact below_drewN (Below.refl _ _) d⟩)
        have HMB := Lib.hid (fun (W : World) (hW : Below w1.heap.size w1 W) => show W.cell? ⟨w.heap.size, 0, none⟩ = some (.int .i64 x.v) ∧ W.cell? ⟨w.heap.size, 1, none⟩ = some (.int .i64 x.d) ∧ W.cell? ⟨w.heap.size, 2, none⟩ = some (.int .i64 x.h) ∧ W.cell? ⟨w.heap.size, 3, none⟩ = some (.int .i64 x.b) ∧ W.cell? ⟨w.heap.size, 4, none⟩ = some (.int .i64 x.n) ∧ W.cell? ⟨w.heap.size, 5, none⟩ = some (.int .i64 x.c) ∧ W.cell? ⟨w.heap.size, 6, none⟩ = some (.string s) from Rf.seven (show W.heap[w.heap.size]? = some (mdO x s) from Rf.stays HH0.out hW))
        have HTZ := Lib.hid (HTK.out k sc)
        clear hS hR hsl hkM hsy hpa hki hsc hgen hall HTO
        by_cases hd : k < nd
        · have y0 : (k : Int) < (nd : Int) := by omega
          have y1 : decide ((k : Int) < (nd : Int)) = true := decide_eq_true y0
          have x2 : 0 ≤ (k : Int) := by omega
          obtain ⟨pd, od, rfl, hcd⟩ := (HD.out.below HBW.out (Nat.le_refl _)).at (show k < ds.length by rw [HDL.out]; exact hd)
          go_upto_region 16 with (fail)
          clear hcd hd y0 y1
          generalize tk k sc = z at HIN HG1 HG2 HTZ
          cases gr with
          | true =>
            rw [if_pos rfl] at HTZ
            rw [← HTZ.out] at HBE
            by_cases hz : z = 0
            · have t0 : (z == 0) = true := beq_iff_eq.2 hz
              have HG := Lib.hid (HG1.out hz)
              clear hz HG1 HG2
              go_wp2_with (first | (go_at_call 47; refine (HNX.out _ (Below.refl _ _)).mono ?_; rintro e w4 ⟨rfl, b4⟩; have HB4 := Lib.hid b4; clear b4) | (go_at_call 48; refine (HBE.out _ HB4.out).mono ?_; rintro e w5 ⟨rfl, b5⟩; have HSY5 := Lib.hid (HSY.out.step (HB4.out.trans (b5.mono HB4.out.size))); clear b5))
              refine bodyPost_ret (results_tmp2 rfl _ _ _) rfl ?_
              exact ⟨OA, oc, by rw [HG.out, HS.out]; rfl, by rw [HG.out]; exact HSY5.out.own.kin, by rw [HG.out, HS.out]; exact HCAP.out, HB0.out.trans (HSY5.out.below.mono (by rw [HW0.out]; omega))⟩
            · have t0 : (z == 0) = false := beq_eq_false_iff_ne.2 hz
              have HG := Lib.hid (HG2.out hz)
              have HZB := Lib.hid (show tokB x z = true from by unfold tokB; rw [decide_eq_true HIN.out.1, decide_eq_true HIN.out.2]; rfl)
              clear hz HG1 HG2
              go_upto_region 21 with (first | (go_at_call 47; refine (HNX.out _ (Below.refl _ _)).mono ?_; rintro e w4 ⟨rfl, b4⟩; have HB4 := Lib.hid b4; clear b4) | (go_at_call 48; refine (HBE.out _ HB4.out).mono ?_; rintro e w5 ⟨rfl, b5⟩; have HSY5 := Lib.hid (HSY.out.step (HB4.out.trans (b5.mono HB4.out.size))); clear b5))
              have HO5 := Lib.hid (show w5.ownsRow w1.heap.size 3 1 (.slice OA k oc) k (icells S) from Own.at HSY5.out.own HS.out)
              go_upto_region 22 with (at_builtin; refine wpList_append_lies _ rfl (.tmp 76) (.tmp 78) 45 rfl w1.heap.size 3 i0 _ 1 8 Tryz.underlying45 HI.out HZ0.out HZ1.out HZ2.out rfl Nat.one_pos (.slice OA k oc) k _ rfl (HO5.out.alloc _) ⟨w5.heap.size, 0, none⟩ 1 1 [.int .i64 z] rfl rfl (one_src w5 z) (one_one z) Nat.one_pos (by have := HKM.out; have := HL.out; unfold maxLen; omega) (by have := HKM.out; have := HL.out; omega) (base_le HSY5.out.below rfl _) _ rfl ?_; intro g6 c6 w6 hown6 hg6 hat6 hl6)
              have HSY6 := Lib.hid (show Saying w1 (.slice (some ⟨g6, 0, none⟩) (k + 1) c6) (.slice PA r pc) (S ++ [z]) R [] w6 from by
                have h1 := HSY5.out.said (g := g6) (cap := c6) (z := z) (wz := w6) (.cells #[.int .i64 z] 3) (by rw [HS.out]; exact hown6) hg6 hat6
                rw [HS.out] at h1
                exact h1)
              clear hown6 hg6 hat6 hl6
              by_cases hM : k + 1 = M
              · have t1 : (((k + 1 : Nat) : Int) == (M : Int)) = true := beq_iff_eq.2 (by omega)
                have t2 : ((k : Int) + 1 == (M : Int)) = true := beq_iff_eq.2 (by omega)
                have HGE := Lib.hid (show genT x s tk M 0 ts = S ++ [z] from by
                  have h5 := HG.out
                  rw [show M - (k + 1) = 0 by omega, genT_zero, List.append_nil] at h5
                  exact h5)
                clear hM
                go_wp2_with (fail)
                refine bodyPost_ret (results_tmp2 rfl _ _ _) rfl ?_
                exact ⟨some ⟨g6, 0, none⟩, c6, by rw [HGE.out, List.length_append, HS.out]; rfl, by rw [HGE.out]; exact HSY6.out.own.kin, by rw [HGE.out, List.length_append, HS.out]; exact own_capR HSY6.out.own, HB0.out.trans (HSY6.out.below.mono (by rw [HW0.out]; omega))⟩
              · have t1 : (((k + 1 : Nat) : Int) == (M : Int)) = false := beq_eq_false_iff_ne.2 (by omega)
                have t2 : ((k : Int) + 1 == (M : Int)) = false := beq_eq_false_iff_ne.2 (by omega)
                have HK1 := Lib.hid (show k + 1 < M from by have := HKM.out; omega)
                have HRF := Lib.hid (HST.out w6 PA r pc R (ts ++ S) z HR.out HSY6.out.ga.es HPA.out HZB.out HLEN.out)
                unfold RefSays eV at HRF
                obtain ⟨e0, e1, e2, e3, e4, e5, e6⟩ := HMB.out w6 HSY6.out.below
                clear hM
                go_upto_region 25 with (go_at_call 15; refine HRF.out.mono ?_; rintro e w7 ⟨r7, SA7, q7, rfl, he7, hk7, hl7, hf7, hn7, b7⟩; have HSY7 := Lib.hid (HSY6.out.come (F := [(r7, entZ x s (past R) z)]) b7 (fun q hq => by rw [List.mem_singleton.1 hq]; exact he7) (fun q hq => by rw [List.mem_singleton.1 hq]; exact hf7)); have HK7 := Lib.hid hk7; have HL7 := Lib.hid hl7; have HN7 := Lib.hid hn7; clear he7 hk7 hl7 hf7 hn7 b7)
                clear e0 e1 e2 e3 e4 e5 e6 t0 t1 t2
                have HP8 := Lib.hid (HSY7.out.step ((Below.refl w7.heap.size w7).alloc (Nat.le_refl _) (.cells #[.slice r7.kA (entZ x s (past R) z).ks.length r7.kc, .slice r7.vA (entZ x s (past R) z).vs.length r7.vc] 42)))
                have HK8 := Lib.hid (HK7.out.below ((Below.refl w7.heap.size w7).alloc (Nat.le_refl _) (.cells #[.slice r7.kA (entZ x s (past R) z).ks.length r7.kc, .slice r7.vA (entZ x s (past R) z).vs.length r7.vc] 42)) (Nat.le_refl _))
                have HX8 := Lib.hid (heap_alloc_new w7 (.cells #[.slice r7.kA (entZ x s (past R) z).ks.length r7.kc, .slice r7.vA (entZ x s (past R) z).vs.length r7.vc] 42))
                generalize hW8 : w7.alloc (.cells #[.slice r7.kA (entZ x s (past R) z).ks.length r7.kc, .slice r7.vA (entZ x s (past R) z).vs.length r7.vc] 42) = w8 at HP8 HK8 HX8 ⊢
                have HE8 := Lib.hid (rf0 HX8.out)
                have HE9 := Lib.hid (rf1 HX8.out)
                have c0 := HE8.out
                have c1 := HE9.out
                clear hW8
                have HR8 := Lib.hid (show w8.ownsRow w1.heap.size 42 2 (.slice PA r pc) r (eCs R) from by have h1 := HP8.out.ga.own; rw [HR.out] at h1; exact h1)
                have HZ8 := Lib.hid HP8.out.below.size
                go_wp2_with (first | (refine Great.wpList_buildSliceTo rfl 36 42 1 #[(0, .tmp 94)] rfl _ rfl (some 95) rfl Tryz.underlying36 #[.slice r7.kA (entZ x s (past R) z).ks.length r7.kc, .slice r7.vA (entZ x s (past R) z).vs.length r7.vc] (entryROne _ _ _ _ _ _) ?_) | (at_builtin; refine wpList_append_lies _ rfl (.tmp 93) (.tmp 95) 36 rfl w1.heap.size 42 j0 _ 2 48 Tryz.underlying36 HJ.out HY0.out HY1.out HY2.out rfl (by omega) (.slice PA r pc) r (eCs R) rfl (HR8.out.alloc _) ⟨w8.heap.size, 0, none⟩ 1 1 (eC r7 (entZ x s (past R) z)) rfl rfl (two_src w8 _ r7 _) (eC_one r7 _) Nat.one_pos (by have := HL.out; have := HRK.out; have := HKM.out; unfold maxLen; omega) (by have := HL.out; have := HRK.out; have := HKM.out; omega) (by simp; exact Nat.le_succ_of_le HZ8.out) _ rfl ?_; intro g9 c9 w9 hown9 hg9 hat9 hl9))
                have HP9 := Lib.hid (show Saying w1 (.slice (some ⟨g6, 0, none⟩) (k + 1) c6) (.slice (some ⟨g9, 0, none⟩) (r + 1) c9) (S ++ [z]) (R ++ [(r7, entZ x s (past R) z)]) [] w9 from by
                  have h1 := (HP8.out.step ((Below.refl w8.heap.size w8).alloc (Nat.le_refl _) (.cells #[.slice r7.kA (entZ x s (past R) z).ks.length r7.kc, .slice r7.vA (entZ x s (past R) z).vs.length r7.vc] 42))).laid (g := g9) (cap := c9) (wz := w9) (by rw [HR.out]; exact hown9) hg9 hat9
                  rw [HR.out] at h1
                  exact h1)
                have HK9 := Lib.hid (show KIn .i64 w9 SA7 (scoZ x s (past R) z) from KIn.moved HK8.out (kin_far HK8.out HN7.out) (fun i hi => (hg9.block i (by have := hi.2; simp; omega) (fun e => by have := HSY6.out.lt.2 i e.symm; have := hi.1; omega)).trans (Below.heap_alloc w8 _ i hi.2)))
                have hrs := run_snoc x s (ts ++ S) z
                rw [List.append_assoc, ← HPA.out] at hrs
                have HRS := Lib.hid hrs
                clear hown9 hg9 hat9 hl9 hrs
                exact ⟨⟨k + 1, r + 1, _, c9, SA7, q7, _, c6, S ++ [z], R ++ [(r7, entZ x s (past R) z)], scoZ x s (past R) z, rfl, rfl, rfl, by rw [List.length_append, HS.out]; rfl, by rw [List.length_append, HR.out]; rfl, HL7.out, HK1.out, HP9.out, by rw [past_append, HRS.out.1]; rfl, HK9.out, HRS.out.2.symm, HG.out, by rw [← List.append_assoc, List.all_append, HAL.out]; simp [HZB.out]⟩, by have := HKM.out; show M - (k + 1) < M - k; omega⟩
          | false =>
            rw [if_neg Bool.false_ne_true] at HTZ
            rw [← HTZ.out] at HNX
            by_cases hz : z = 0
            · have t0 : (z == 0) = true := beq_iff_eq.2 hz
              have HG := Lib.hid (HG1.out hz)
              clear hz HG1 HG2
              go_wp2_with (first | (go_at_call 47; refine (HNX.out _ (Below.refl _ _)).mono ?_; rintro e w5 ⟨rfl, b5⟩; have HSY5 := Lib.hid (HSY.out.step b5); clear b5))
              refine bodyPost_ret (results_tmp2 rfl _ _ _) rfl ?_
              exact ⟨OA, oc, by rw [HG.out, HS.out]; rfl, by rw [HG.out]; exact HSY5.out.own.kin, by rw [HG.out, HS.out]; exact HCAP.out, HB0.out.trans (HSY5.out.below.mono (by rw [HW0.out]; omega))⟩
            · have t0 : (z == 0) = false := beq_eq_false_iff_ne.2 hz
              have HG := Lib.hid (HG2.out hz)
              have HZB := Lib.hid (show tokB x z = true from by unfold tokB; rw [decide_eq_true HIN.out.1, decide_eq_true HIN.out.2]; rfl)
              clear hz HG1 HG2
              go_upto_region 21 with (first | (go_at_call 47; refine (HNX.out _ (Below.refl _ _)).mono ?_; rintro e w5 ⟨rfl, b5⟩; have HSY5 := Lib.hid (HSY.out.step b5); clear b5))
              have HO5 := Lib.hid (show w5.ownsRow w1.heap.size 3 1 (.slice OA k oc) k (icells S) from Own.at HSY5.out.own HS.out)
              go_upto_region 22 with (at_builtin; refine wpList_append_lies _ rfl (.tmp 76) (.tmp 78) 45 rfl w1.heap.size 3 i0 _ 1 8 Tryz.underlying45 HI.out HZ0.out HZ1.out HZ2.out rfl Nat.one_pos (.slice OA k oc) k _ rfl (HO5.out.alloc _) ⟨w5.heap.size, 0, none⟩ 1 1 [.int .i64 z] rfl rfl (one_src w5 z) (one_one z) Nat.one_pos (by have := HKM.out; have := HL.out; unfold maxLen; omega) (by have := HKM.out; have := HL.out; omega) (base_le HSY5.out.below rfl _) _ rfl ?_; intro g6 c6 w6 hown6 hg6 hat6 hl6)
              have HSY6 := Lib.hid (show Saying w1 (.slice (some ⟨g6, 0, none⟩) (k + 1) c6) (.slice PA r pc) (S ++ [z]) R [] w6 from by
                have h1 := HSY5.out.said (g := g6) (cap := c6) (z := z) (wz := w6) (.cells #[.int .i64 z] 3) (by rw [HS.out]; exact hown6) hg6 hat6
                rw [HS.out] at h1
                exact h1)
              clear hown6 hg6 hat6 hl6
              by_cases hM : k + 1 = M
              · have t1 : (((k + 1 : Nat) : Int) == (M : Int)) = true := beq_iff_eq.2 (by omega)
                have t2 : ((k : Int) + 1 == (M : Int)) = true := beq_iff_eq.2 (by omega)
                have HGE := Lib.hid (show genT x s tk M 0 ts = S ++ [z] from by
                  have h5 := HG.out
                  rw [show M - (k + 1) = 0 by omega, genT_zero, List.append_nil] at h5
                  exact h5)
                clear hM
                go_wp2_with (fail)
                refine bodyPost_ret (results_tmp2 rfl _ _ _) rfl ?_
                exact ⟨some ⟨g6, 0, none⟩, c6, by rw [HGE.out, List.length_append, HS.out]; rfl, by rw [HGE.out]; exact HSY6.out.own.kin, by rw [HGE.out, List.length_append, HS.out]; exact own_capR HSY6.out.own, HB0.out.trans (HSY6.out.below.mono (by rw [HW0.out]; omega))⟩
              · have t1 : (((k + 1 : Nat) : Int) == (M : Int)) = false := beq_eq_false_iff_ne.2 (by omega)
                have t2 : ((k : Int) + 1 == (M : Int)) = false := beq_eq_false_iff_ne.2 (by omega)
                have HK1 := Lib.hid (show k + 1 < M from by have := HKM.out; omega)
                have HRF := Lib.hid (HST.out w6 PA r pc R (ts ++ S) z HR.out HSY6.out.ga.es HPA.out HZB.out HLEN.out)
                unfold RefSays eV at HRF
                obtain ⟨e0, e1, e2, e3, e4, e5, e6⟩ := HMB.out w6 HSY6.out.below
                clear hM
                go_upto_region 25 with (go_at_call 15; refine HRF.out.mono ?_; rintro e w7 ⟨r7, SA7, q7, rfl, he7, hk7, hl7, hf7, hn7, b7⟩; have HSY7 := Lib.hid (HSY6.out.come (F := [(r7, entZ x s (past R) z)]) b7 (fun q hq => by rw [List.mem_singleton.1 hq]; exact he7) (fun q hq => by rw [List.mem_singleton.1 hq]; exact hf7)); have HK7 := Lib.hid hk7; have HL7 := Lib.hid hl7; have HN7 := Lib.hid hn7; clear he7 hk7 hl7 hf7 hn7 b7)
                clear e0 e1 e2 e3 e4 e5 e6 t0 t1 t2
                have HP8 := Lib.hid (HSY7.out.step ((Below.refl w7.heap.size w7).alloc (Nat.le_refl _) (.cells #[.slice r7.kA (entZ x s (past R) z).ks.length r7.kc, .slice r7.vA (entZ x s (past R) z).vs.length r7.vc] 42)))
                have HK8 := Lib.hid (HK7.out.below ((Below.refl w7.heap.size w7).alloc (Nat.le_refl _) (.cells #[.slice r7.kA (entZ x s (past R) z).ks.length r7.kc, .slice r7.vA (entZ x s (past R) z).vs.length r7.vc] 42)) (Nat.le_refl _))
                have HX8 := Lib.hid (heap_alloc_new w7 (.cells #[.slice r7.kA (entZ x s (past R) z).ks.length r7.kc, .slice r7.vA (entZ x s (past R) z).vs.length r7.vc] 42))
                generalize hW8 : w7.alloc (.cells #[.slice r7.kA (entZ x s (past R) z).ks.length r7.kc, .slice r7.vA (entZ x s (past R) z).vs.length r7.vc] 42) = w8 at HP8 HK8 HX8 ⊢
                have HE8 := Lib.hid (rf0 HX8.out)
                have HE9 := Lib.hid (rf1 HX8.out)
                have c0 := HE8.out
                have c1 := HE9.out
                clear hW8
                have HR8 := Lib.hid (show w8.ownsRow w1.heap.size 42 2 (.slice PA r pc) r (eCs R) from by have h1 := HP8.out.ga.own; rw [HR.out] at h1; exact h1)
                have HZ8 := Lib.hid HP8.out.below.size
                go_wp2_with (first | (refine Great.wpList_buildSliceTo rfl 36 42 1 #[(0, .tmp 94)] rfl _ rfl (some 95) rfl Tryz.underlying36 #[.slice r7.kA (entZ x s (past R) z).ks.length r7.kc, .slice r7.vA (entZ x s (past R) z).vs.length r7.vc] (entryROne _ _ _ _ _ _) ?_) | (at_builtin; refine wpList_append_lies _ rfl (.tmp 93) (.tmp 95) 36 rfl w1.heap.size 42 j0 _ 2 48 Tryz.underlying36 HJ.out HY0.out HY1.out HY2.out rfl (by omega) (.slice PA r pc) r (eCs R) rfl (HR8.out.alloc _) ⟨w8.heap.size, 0, none⟩ 1 1 (eC r7 (entZ x s (past R) z)) rfl rfl (two_src w8 _ r7 _) (eC_one r7 _) Nat.one_pos (by have := HL.out; have := HRK.out; have := HKM.out; unfold maxLen; omega) (by have := HL.out; have := HRK.out; have := HKM.out; omega) (by simp; exact Nat.le_succ_of_le HZ8.out) _ rfl ?_; intro g9 c9 w9 hown9 hg9 hat9 hl9))
                have HP9 := Lib.hid (show Saying w1 (.slice (some ⟨g6, 0, none⟩) (k + 1) c6) (.slice (some ⟨g9, 0, none⟩) (r + 1) c9) (S ++ [z]) (R ++ [(r7, entZ x s (past R) z)]) [] w9 from by
                  have h1 := (HP8.out.step ((Below.refl w8.heap.size w8).alloc (Nat.le_refl _) (.cells #[.slice r7.kA (entZ x s (past R) z).ks.length r7.kc, .slice r7.vA (entZ x s (past R) z).vs.length r7.vc] 42))).laid (g := g9) (cap := c9) (wz := w9) (by rw [HR.out]; exact hown9) hg9 hat9
                  rw [HR.out] at h1
                  exact h1)
                have HK9 := Lib.hid (show KIn .i64 w9 SA7 (scoZ x s (past R) z) from KIn.moved HK8.out (kin_far HK8.out HN7.out) (fun i hi => (hg9.block i (by have := hi.2; simp; omega) (fun e => by have := HSY6.out.lt.2 i e.symm; have := hi.1; omega)).trans (Below.heap_alloc w8 _ i hi.2)))
                have hrs := run_snoc x s (ts ++ S) z
                rw [List.append_assoc, ← HPA.out] at hrs
                have HRS := Lib.hid hrs
                clear hown9 hg9 hat9 hl9 hrs
                exact ⟨⟨k + 1, r + 1, _, c9, SA7, q7, _, c6, S ++ [z], R ++ [(r7, entZ x s (past R) z)], scoZ x s (past R) z, rfl, rfl, rfl, by rw [List.length_append, HS.out]; rfl, by rw [List.length_append, HR.out]; rfl, HL7.out, HK1.out, HP9.out, by rw [past_append, HRS.out.1]; rfl, HK9.out, HRS.out.2.symm, HG.out, by rw [← List.append_assoc, List.all_append, HAL.out]; simp [HZB.out]⟩, by have := HKM.out; show M - (k + 1) < M - k; omega⟩
        · have y0 : ¬ (k : Int) < (nd : Int) := by omega
          have y1 : decide ((k : Int) < (nd : Int)) = false := decide_eq_false y0
          have hd0 : ds.getD k 0 = 0 := by rw [List.getD_eq_getElem?_getD, List.getElem?_eq_none (by rw [HDL.out]; omega)]; rfl
          rw [hd0] at HNX HTZ
          go_upto_region 16 with (fail)
          clear hd y0 y1 hd0
          generalize tk k sc = z at HIN HG1 HG2 HTZ
          cases gr with
          | true =>
            rw [if_pos rfl] at HTZ
            rw [← HTZ.out] at HBE
            by_cases hz : z = 0
            · have t0 : (z == 0) = true := beq_iff_eq.2 hz
              have HG := Lib.hid (HG1.out hz)
              clear hz HG1 HG2
              go_wp2_with (first | (go_at_call 47; refine (HNX.out _ (Below.refl _ _)).mono ?_; rintro e w4 ⟨rfl, b4⟩; have HB4 := Lib.hid b4; clear b4) | (go_at_call 48; refine (HBE.out _ HB4.out).mono ?_; rintro e w5 ⟨rfl, b5⟩; have HSY5 := Lib.hid (HSY.out.step (HB4.out.trans (b5.mono HB4.out.size))); clear b5))
              refine bodyPost_ret (results_tmp2 rfl _ _ _) rfl ?_
              exact ⟨OA, oc, by rw [HG.out, HS.out]; rfl, by rw [HG.out]; exact HSY5.out.own.kin, by rw [HG.out, HS.out]; exact HCAP.out, HB0.out.trans (HSY5.out.below.mono (by rw [HW0.out]; omega))⟩
            · have t0 : (z == 0) = false := beq_eq_false_iff_ne.2 hz
              have HG := Lib.hid (HG2.out hz)
              have HZB := Lib.hid (show tokB x z = true from by unfold tokB; rw [decide_eq_true HIN.out.1, decide_eq_true HIN.out.2]; rfl)
              clear hz HG1 HG2
              go_upto_region 21 with (first | (go_at_call 47; refine (HNX.out _ (Below.refl _ _)).mono ?_; rintro e w4 ⟨rfl, b4⟩; have HB4 := Lib.hid b4; clear b4) | (go_at_call 48; refine (HBE.out _ HB4.out).mono ?_; rintro e w5 ⟨rfl, b5⟩; have HSY5 := Lib.hid (HSY.out.step (HB4.out.trans (b5.mono HB4.out.size))); clear b5))
              have HO5 := Lib.hid (show w5.ownsRow w1.heap.size 3 1 (.slice OA k oc) k (icells S) from Own.at HSY5.out.own HS.out)
              go_upto_region 22 with (at_builtin; refine wpList_append_lies _ rfl (.tmp 76) (.tmp 78) 45 rfl w1.heap.size 3 i0 _ 1 8 Tryz.underlying45 HI.out HZ0.out HZ1.out HZ2.out rfl Nat.one_pos (.slice OA k oc) k _ rfl (HO5.out.alloc _) ⟨w5.heap.size, 0, none⟩ 1 1 [.int .i64 z] rfl rfl (one_src w5 z) (one_one z) Nat.one_pos (by have := HKM.out; have := HL.out; unfold maxLen; omega) (by have := HKM.out; have := HL.out; omega) (base_le HSY5.out.below rfl _) _ rfl ?_; intro g6 c6 w6 hown6 hg6 hat6 hl6)
              have HSY6 := Lib.hid (show Saying w1 (.slice (some ⟨g6, 0, none⟩) (k + 1) c6) (.slice PA r pc) (S ++ [z]) R [] w6 from by
                have h1 := HSY5.out.said (g := g6) (cap := c6) (z := z) (wz := w6) (.cells #[.int .i64 z] 3) (by rw [HS.out]; exact hown6) hg6 hat6
                rw [HS.out] at h1
                exact h1)
              clear hown6 hg6 hat6 hl6
              by_cases hM : k + 1 = M
              · have t1 : (((k + 1 : Nat) : Int) == (M : Int)) = true := beq_iff_eq.2 (by omega)
                have t2 : ((k : Int) + 1 == (M : Int)) = true := beq_iff_eq.2 (by omega)
                have HGE := Lib.hid (show genT x s tk M 0 ts = S ++ [z] from by
                  have h5 := HG.out
                  rw [show M - (k + 1) = 0 by omega, genT_zero, List.append_nil] at h5
                  exact h5)
                clear hM
                go_wp2_with (fail)
                refine bodyPost_ret (results_tmp2 rfl _ _ _) rfl ?_
                exact ⟨some ⟨g6, 0, none⟩, c6, by rw [HGE.out, List.length_append, HS.out]; rfl, by rw [HGE.out]; exact HSY6.out.own.kin, by rw [HGE.out, List.length_append, HS.out]; exact own_capR HSY6.out.own, HB0.out.trans (HSY6.out.below.mono (by rw [HW0.out]; omega))⟩
              · have t1 : (((k + 1 : Nat) : Int) == (M : Int)) = false := beq_eq_false_iff_ne.2 (by omega)
                have t2 : ((k : Int) + 1 == (M : Int)) = false := beq_eq_false_iff_ne.2 (by omega)
                have HK1 := Lib.hid (show k + 1 < M from by have := HKM.out; omega)
                have HRF := Lib.hid (HST.out w6 PA r pc R (ts ++ S) z HR.out HSY6.out.ga.es HPA.out HZB.out HLEN.out)
                unfold RefSays eV at HRF
                obtain ⟨e0, e1, e2, e3, e4, e5, e6⟩ := HMB.out w6 HSY6.out.below
                clear hM
                go_upto_region 25 with (go_at_call 15; refine HRF.out.mono ?_; rintro e w7 ⟨r7, SA7, q7, rfl, he7, hk7, hl7, hf7, hn7, b7⟩; have HSY7 := Lib.hid (HSY6.out.come (F := [(r7, entZ x s (past R) z)]) b7 (fun q hq => by rw [List.mem_singleton.1 hq]; exact he7) (fun q hq => by rw [List.mem_singleton.1 hq]; exact hf7)); have HK7 := Lib.hid hk7; have HL7 := Lib.hid hl7; have HN7 := Lib.hid hn7; clear he7 hk7 hl7 hf7 hn7 b7)
                clear e0 e1 e2 e3 e4 e5 e6 t0 t1 t2
                have HP8 := Lib.hid (HSY7.out.step ((Below.refl w7.heap.size w7).alloc (Nat.le_refl _) (.cells #[.slice r7.kA (entZ x s (past R) z).ks.length r7.kc, .slice r7.vA (entZ x s (past R) z).vs.length r7.vc] 42)))
                have HK8 := Lib.hid (HK7.out.below ((Below.refl w7.heap.size w7).alloc (Nat.le_refl _) (.cells #[.slice r7.kA (entZ x s (past R) z).ks.length r7.kc, .slice r7.vA (entZ x s (past R) z).vs.length r7.vc] 42)) (Nat.le_refl _))
                have HX8 := Lib.hid (heap_alloc_new w7 (.cells #[.slice r7.kA (entZ x s (past R) z).ks.length r7.kc, .slice r7.vA (entZ x s (past R) z).vs.length r7.vc] 42))
                generalize hW8 : w7.alloc (.cells #[.slice r7.kA (entZ x s (past R) z).ks.length r7.kc, .slice r7.vA (entZ x s (past R) z).vs.length r7.vc] 42) = w8 at HP8 HK8 HX8 ⊢
                have HE8 := Lib.hid (rf0 HX8.out)
                have HE9 := Lib.hid (rf1 HX8.out)
                have c0 := HE8.out
                have c1 := HE9.out
                clear hW8
                have HR8 := Lib.hid (show w8.ownsRow w1.heap.size 42 2 (.slice PA r pc) r (eCs R) from by have h1 := HP8.out.ga.own; rw [HR.out] at h1; exact h1)
                have HZ8 := Lib.hid HP8.out.below.size
                go_wp2_with (first | (refine Great.wpList_buildSliceTo rfl 36 42 1 #[(0, .tmp 94)] rfl _ rfl (some 95) rfl Tryz.underlying36 #[.slice r7.kA (entZ x s (past R) z).ks.length r7.kc, .slice r7.vA (entZ x s (past R) z).vs.length r7.vc] (entryROne _ _ _ _ _ _) ?_) | (at_builtin; refine wpList_append_lies _ rfl (.tmp 93) (.tmp 95) 36 rfl w1.heap.size 42 j0 _ 2 48 Tryz.underlying36 HJ.out HY0.out HY1.out HY2.out rfl (by omega) (.slice PA r pc) r (eCs R) rfl (HR8.out.alloc _) ⟨w8.heap.size, 0, none⟩ 1 1 (eC r7 (entZ x s (past R) z)) rfl rfl (two_src w8 _ r7 _) (eC_one r7 _) Nat.one_pos (by have := HL.out; have := HRK.out; have := HKM.out; unfold maxLen; omega) (by have := HL.out; have := HRK.out; have := HKM.out; omega) (by simp; exact Nat.le_succ_of_le HZ8.out) _ rfl ?_; intro g9 c9 w9 hown9 hg9 hat9 hl9))
                have HP9 := Lib.hid (show Saying w1 (.slice (some ⟨g6, 0, none⟩) (k + 1) c6) (.slice (some ⟨g9, 0, none⟩) (r + 1) c9) (S ++ [z]) (R ++ [(r7, entZ x s (past R) z)]) [] w9 from by
                  have h1 := (HP8.out.step ((Below.refl w8.heap.size w8).alloc (Nat.le_refl _) (.cells #[.slice r7.kA (entZ x s (past R) z).ks.length r7.kc, .slice r7.vA (entZ x s (past R) z).vs.length r7.vc] 42))).laid (g := g9) (cap := c9) (wz := w9) (by rw [HR.out]; exact hown9) hg9 hat9
                  rw [HR.out] at h1
                  exact h1)
                have HK9 := Lib.hid (show KIn .i64 w9 SA7 (scoZ x s (past R) z) from KIn.moved HK8.out (kin_far HK8.out HN7.out) (fun i hi => (hg9.block i (by have := hi.2; simp; omega) (fun e => by have := HSY6.out.lt.2 i e.symm; have := hi.1; omega)).trans (Below.heap_alloc w8 _ i hi.2)))
                have hrs := run_snoc x s (ts ++ S) z
                rw [List.append_assoc, ← HPA.out] at hrs
                have HRS := Lib.hid hrs
                clear hown9 hg9 hat9 hl9 hrs
                exact ⟨⟨k + 1, r + 1, _, c9, SA7, q7, _, c6, S ++ [z], R ++ [(r7, entZ x s (past R) z)], scoZ x s (past R) z, rfl, rfl, rfl, by rw [List.length_append, HS.out]; rfl, by rw [List.length_append, HR.out]; rfl, HL7.out, HK1.out, HP9.out, by rw [past_append, HRS.out.1]; rfl, HK9.out, HRS.out.2.symm, HG.out, by rw [← List.append_assoc, List.all_append, HAL.out]; simp [HZB.out]⟩, by have := HKM.out; show M - (k + 1) < M - k; omega⟩
          | false =>
            rw [if_neg Bool.false_ne_true] at HTZ
            rw [← HTZ.out] at HNX
            by_cases hz : z = 0
            · have t0 : (z == 0) = true := beq_iff_eq.2 hz
              have HG := Lib.hid (HG1.out hz)
              clear hz HG1 HG2
              go_wp2_with (first | (go_at_call 47; refine (HNX.out _ (Below.refl _ _)).mono ?_; rintro e w5 ⟨rfl, b5⟩; have HSY5 := Lib.hid (HSY.out.step b5); clear b5))
              refine bodyPost_ret (results_tmp2 rfl _ _ _) rfl ?_
              exact ⟨OA, oc, by rw [HG.out, HS.out]; rfl, by rw [HG.out]; exact HSY5.out.own.kin, by rw [HG.out, HS.out]; exact HCAP.out, HB0.out.trans (HSY5.out.below.mono (by rw [HW0.out]; omega))⟩
            · have t0 : (z == 0) = false := beq_eq_false_iff_ne.2 hz
              have HG := Lib.hid (HG2.out hz)
              have HZB := Lib.hid (show tokB x z = true from by unfold tokB; rw [decide_eq_true HIN.out.1, decide_eq_true HIN.out.2]; rfl)
              clear hz HG1 HG2
              go_upto_region 21 with (first | (go_at_call 47; refine (HNX.out _ (Below.refl _ _)).mono ?_; rintro e w5 ⟨rfl, b5⟩; have HSY5 := Lib.hid (HSY.out.step b5); clear b5))
              have HO5 := Lib.hid (show w5.ownsRow w1.heap.size 3 1 (.slice OA k oc) k (icells S) from Own.at HSY5.out.own HS.out)
              go_upto_region 22 with (at_builtin; refine wpList_append_lies _ rfl (.tmp 76) (.tmp 78) 45 rfl w1.heap.size 3 i0 _ 1 8 Tryz.underlying45 HI.out HZ0.out HZ1.out HZ2.out rfl Nat.one_pos (.slice OA k oc) k _ rfl (HO5.out.alloc _) ⟨w5.heap.size, 0, none⟩ 1 1 [.int .i64 z] rfl rfl (one_src w5 z) (one_one z) Nat.one_pos (by have := HKM.out; have := HL.out; unfold maxLen; omega) (by have := HKM.out; have := HL.out; omega) (base_le HSY5.out.below rfl _) _ rfl ?_; intro g6 c6 w6 hown6 hg6 hat6 hl6)
              have HSY6 := Lib.hid (show Saying w1 (.slice (some ⟨g6, 0, none⟩) (k + 1) c6) (.slice PA r pc) (S ++ [z]) R [] w6 from by
                have h1 := HSY5.out.said (g := g6) (cap := c6) (z := z) (wz := w6) (.cells #[.int .i64 z] 3) (by rw [HS.out]; exact hown6) hg6 hat6
                rw [HS.out] at h1
                exact h1)
              clear hown6 hg6 hat6 hl6
              by_cases hM : k + 1 = M
              · have t1 : (((k + 1 : Nat) : Int) == (M : Int)) = true := beq_iff_eq.2 (by omega)
                have t2 : ((k : Int) + 1 == (M : Int)) = true := beq_iff_eq.2 (by omega)
                have HGE := Lib.hid (show genT x s tk M 0 ts = S ++ [z] from by
                  have h5 := HG.out
                  rw [show M - (k + 1) = 0 by omega, genT_zero, List.append_nil] at h5
                  exact h5)
                clear hM
                go_wp2_with (fail)
                refine bodyPost_ret (results_tmp2 rfl _ _ _) rfl ?_
                exact ⟨some ⟨g6, 0, none⟩, c6, by rw [HGE.out, List.length_append, HS.out]; rfl, by rw [HGE.out]; exact HSY6.out.own.kin, by rw [HGE.out, List.length_append, HS.out]; exact own_capR HSY6.out.own, HB0.out.trans (HSY6.out.below.mono (by rw [HW0.out]; omega))⟩
              · have t1 : (((k + 1 : Nat) : Int) == (M : Int)) = false := beq_eq_false_iff_ne.2 (by omega)
                have t2 : ((k : Int) + 1 == (M : Int)) = false := beq_eq_false_iff_ne.2 (by omega)
                have HK1 := Lib.hid (show k + 1 < M from by have := HKM.out; omega)
                have HRF := Lib.hid (HST.out w6 PA r pc R (ts ++ S) z HR.out HSY6.out.ga.es HPA.out HZB.out HLEN.out)
                unfold RefSays eV at HRF
                obtain ⟨e0, e1, e2, e3, e4, e5, e6⟩ := HMB.out w6 HSY6.out.below
                clear hM
                go_upto_region 25 with (go_at_call 15; refine HRF.out.mono ?_; rintro e w7 ⟨r7, SA7, q7, rfl, he7, hk7, hl7, hf7, hn7, b7⟩; have HSY7 := Lib.hid (HSY6.out.come (F := [(r7, entZ x s (past R) z)]) b7 (fun q hq => by rw [List.mem_singleton.1 hq]; exact he7) (fun q hq => by rw [List.mem_singleton.1 hq]; exact hf7)); have HK7 := Lib.hid hk7; have HL7 := Lib.hid hl7; have HN7 := Lib.hid hn7; clear he7 hk7 hl7 hf7 hn7 b7)
                clear e0 e1 e2 e3 e4 e5 e6 t0 t1 t2
                have HP8 := Lib.hid (HSY7.out.step ((Below.refl w7.heap.size w7).alloc (Nat.le_refl _) (.cells #[.slice r7.kA (entZ x s (past R) z).ks.length r7.kc, .slice r7.vA (entZ x s (past R) z).vs.length r7.vc] 42)))
                have HK8 := Lib.hid (HK7.out.below ((Below.refl w7.heap.size w7).alloc (Nat.le_refl _) (.cells #[.slice r7.kA (entZ x s (past R) z).ks.length r7.kc, .slice r7.vA (entZ x s (past R) z).vs.length r7.vc] 42)) (Nat.le_refl _))
                have HX8 := Lib.hid (heap_alloc_new w7 (.cells #[.slice r7.kA (entZ x s (past R) z).ks.length r7.kc, .slice r7.vA (entZ x s (past R) z).vs.length r7.vc] 42))
                generalize hW8 : w7.alloc (.cells #[.slice r7.kA (entZ x s (past R) z).ks.length r7.kc, .slice r7.vA (entZ x s (past R) z).vs.length r7.vc] 42) = w8 at HP8 HK8 HX8 ⊢
                have HE8 := Lib.hid (rf0 HX8.out)
                have HE9 := Lib.hid (rf1 HX8.out)
                have c0 := HE8.out
                have c1 := HE9.out
                clear hW8
                have HR8 := Lib.hid (show w8.ownsRow w1.heap.size 42 2 (.slice PA r pc) r (eCs R) from by have h1 := HP8.out.ga.own; rw [HR.out] at h1; exact h1)
                have HZ8 := Lib.hid HP8.out.below.size
                go_wp2_with (first | (refine Great.wpList_buildSliceTo rfl 36 42 1 #[(0, .tmp 94)] rfl _ rfl (some 95) rfl Tryz.underlying36 #[.slice r7.kA (entZ x s (past R) z).ks.length r7.kc, .slice r7.vA (entZ x s (past R) z).vs.length r7.vc] (entryROne _ _ _ _ _ _) ?_) | (at_builtin; refine wpList_append_lies _ rfl (.tmp 93) (.tmp 95) 36 rfl w1.heap.size 42 j0 _ 2 48 Tryz.underlying36 HJ.out HY0.out HY1.out HY2.out rfl (by omega) (.slice PA r pc) r (eCs R) rfl (HR8.out.alloc _) ⟨w8.heap.size, 0, none⟩ 1 1 (eC r7 (entZ x s (past R) z)) rfl rfl (two_src w8 _ r7 _) (eC_one r7 _) Nat.one_pos (by have := HL.out; have := HRK.out; have := HKM.out; unfold maxLen; omega) (by have := HL.out; have := HRK.out; have := HKM.out; omega) (by simp; exact Nat.le_succ_of_le HZ8.out) _ rfl ?_; intro g9 c9 w9 hown9 hg9 hat9 hl9))
                have HP9 := Lib.hid (show Saying w1 (.slice (some ⟨g6, 0, none⟩) (k + 1) c6) (.slice (some ⟨g9, 0, none⟩) (r + 1) c9) (S ++ [z]) (R ++ [(r7, entZ x s (past R) z)]) [] w9 from by
                  have h1 := (HP8.out.step ((Below.refl w8.heap.size w8).alloc (Nat.le_refl _) (.cells #[.slice r7.kA (entZ x s (past R) z).ks.length r7.kc, .slice r7.vA (entZ x s (past R) z).vs.length r7.vc] 42))).laid (g := g9) (cap := c9) (wz := w9) (by rw [HR.out]; exact hown9) hg9 hat9
                  rw [HR.out] at h1
                  exact h1)
                have HK9 := Lib.hid (show KIn .i64 w9 SA7 (scoZ x s (past R) z) from KIn.moved HK8.out (kin_far HK8.out HN7.out) (fun i hi => (hg9.block i (by have := hi.2; simp; omega) (fun e => by have := HSY6.out.lt.2 i e.symm; have := hi.1; omega)).trans (Below.heap_alloc w8 _ i hi.2)))
                have hrs := run_snoc x s (ts ++ S) z
                rw [List.append_assoc, ← HPA.out] at hrs
                have HRS := Lib.hid hrs
                clear hown9 hg9 hat9 hl9 hrs
                exact ⟨⟨k + 1, r + 1, _, c9, SA7, q7, _, c6, S ++ [z], R ++ [(r7, entZ x s (past R) z)], scoZ x s (past R) z, rfl, rfl, rfl, by rw [List.length_append, HS.out]; rfl, by rw [List.length_append, HR.out]; rfl, HL7.out, HK1.out, HP9.out, by rw [past_append, HRS.out.1]; rfl, HK9.out, HRS.out.2.symm, HG.out, by rw [← List.append_assoc, List.all_append, HAL.out]; simp [HZB.out]⟩, by have := HKM.out; show M - (k + 1) < M - k; omega⟩
end Go.Proofs.YtkdkeokldcehhaaGreatDoor
namespace Go.Proofs.YtkdkeokldcehhaaGreatDoor
open Go.ChangeShapes Go.WideShapes Go.ChangeAt Go.RowKit Cf Vc Br Nr Sf Ac Sp Gn

namespace Gn
/-- A captured variable's block: the draws. -/
def dsO (D : Option Addr) (n c : Nat) : Obj := .cells #[.slice D n c] 45 (0, 0)
theorem ds0 {w : World} {B : Nat} {D : Option Addr} {n c : Nat} (h : w.heap[B]? = some (dsO D n c)) : w.cell? ⟨B, 0, none⟩ = some (.slice D n c) := by rw [cell_of_row w B 0 _ _ _ h]; rfl
theorem ds_stays {w w' : World} {B : Nat} {o : Obj} (h : w.heap[B]? = some o) (hb : Below w.heap.size w w') : w'.heap[B]? = some o := (hb.block B (Array.getElem?_eq_some_iff.1 h).1).trans h
theorem said_of {w w0 : World} {G : List Int} {e : Ending} {w' : World} (h : Below w.heap.size w w0) (hs : SaidSays w0 G e w') : SaidSays w G e w' := by
  obtain ⟨A, c, h1, h2, h3, h4⟩ := hs
  exact ⟨A, c, h1, h2, h3, h.trans (h4.mono h.size)⟩
end Gn
theorem eg_gen1 : ∀ args w, (callFunc 45 args).run Tryz.prog w = .ok (.enter 45 args) w := Go.Proofs.enters_of Tryz.func45 (by kernel_rfl) rfl
theorem eg_greedy1 : ∀ args w, (callFunc 49 args).run Tryz.prog w = .ok (.enter 49 args) w := Go.Proofs.enters_of Tryz.func49 (by kernel_rfl) rfl
section
variable (w : World) (i n c : Nat) (A : Option Addr) (sc : List Int) (hn : sc.length = n) (hm : n ≤ 64) (hA : KIn .i64 w A sc)
include hn hm hA
set_option maxRecDepth 100000 in
theorem gen_greedy1 : Calls Tryz.prog 49 #[.int .i64 (i : Int), .slice A n c] w fun e w' => e = .returned (.int .i64 (takeB i sc)) ∧ Below w.heap.size w w' := by
  have HB := Lib.hid (show Calls Tryz.prog 50 #[.slice A n c] w fun e w' => e = .returned (.int .i64 (takeB i sc)) ∧ w = w' from soft_best w A n c sc hn (by omega) hA)
  clear hn hm hA
  generalize takeB i sc = r at HB ⊢
  go_enter Tryz.func49, Tryz.ntmps49
  go_wp2_with (fail)
  refine HB.out.mono ?_
  rintro e w1 ⟨rfl, rfl⟩
  go_wp2_with (fail)
  exact bodyPost_ret (results_tmp rfl _ _ _) rfl ⟨rfl, Below.refl _ _⟩
set_option maxRecDepth 100000 in
theorem gen_gen1 (B : Nat) (D : Option Addr) (nd cd : Nat) (ds : List Int) (hB : w.heap[B]? = some (dsO D nd cd)) (hd : ds.length = nd) (hD : KIn .i64 w D ds) (hp : POn w) :
    Calls Tryz.prog 45 #[.int .i64 (i : Int), .slice A n c, .pointer (some ⟨B, 0, none⟩)] w fun e w' => e = .returned (.int .i64 (takeD ds i sc)) ∧ Below w.heap.size w w' := by
  have HN := Lib.hid (gen_next w (ds.getD i 0) A n c sc hn (by omega) hA hp)
  have HX := Lib.hid (show takeD ds i sc = nextZ (ds.getD i 0) sc from rfl)
  rw [← HX.out] at HN
  have x0 := ds0 hB
  have x2 : 0 ≤ (i : Int) := by omega
  clear hn hm hA hp hB HX
  generalize takeD ds i sc = r at HN ⊢
  by_cases hlt : i < nd
  · have t0 : (i : Int) < (nd : Int) := by omega
    have t1 : decide ((i : Int) < (nd : Int)) = true := decide_eq_true t0
    obtain ⟨pa, oa, rfl, hc⟩ := hD.at (show i < ds.length by omega)
    generalize ds.getD i 0 = z at hc HN
    clear hD hlt hd
    go_enter Tryz.func45, Tryz.ntmps45
    go_wp2_with (fail)
    refine HN.out.mono ?_
    rintro e w1 ⟨rfl, b1⟩
    have HB := Lib.hid b1
    clear b1
    go_wp2_with (fail)
    exact bodyPost_ret (results_tmp rfl _ _ _) rfl ⟨rfl, HB.out⟩
  · have t0 : ¬ (i : Int) < (nd : Int) := by omega
    have t1 : decide ((i : Int) < (nd : Int)) = false := decide_eq_false t0
    have e0 : ds.getD i 0 = 0 := by
      rw [List.getD_eq_getElem?_getD, List.getElem?_eq_none (by omega)]
      rfl
    rw [e0] at HN
    clear hD hlt hd e0
    go_enter Tryz.func45, Tryz.ntmps45
    go_wp2_with (fail)
    refine HN.out.mono ?_
    rintro e w1 ⟨rfl, b1⟩
    have HB := Lib.hid b1
    clear b1
    go_wp2_with (fail)
    exact bodyPost_ret (results_tmp rfl _ _ _) rfl ⟨rfl, HB.out⟩
end
section
variable (w : World) (b : Nat) (x : Cfg) (s : ByteArray) (h : w.heap[b]? = some (brO x s)) (hk : Ok x s) (T : Option Addr) (m d : Nat) (ts : List Int) (hT : ts.length = m) (hm : m ≤ 1000000) (hK : KIn .i64 w T ts)
include h hT hm hK
set_option maxRecDepth 100000 in
theorem gen_gen_not (D : Option Addr) (nd cd : Nat) (most : Int) (he : errG x most ts ≠ 0) :
    Calls Tryz.prog 19 #[.pointer (some ⟨b, 0, none⟩), .slice T m d, .int .i64 most, .slice D nd cd] w fun e w' => e = .returned (.tuple #[.slice none 0 0, .int .i64 (errG x most ts)]) ∧ Below w.heap.size w w' := by
  have hb0 := (Below.refl w.heap.size w).alloc (Nat.le_refl _) (dsO D nd cd)
  have HB0 := Lib.hid hb0
  have HS := Lib.hid (gen_say_not (w.alloc (dsO D nd cd)) b x s (Br.stays h hb0) T m d ts hT hm (hK.below hb0 (Nat.le_refl _)) most (.func (.func 45) #[] #[.pointer (some ⟨w.heap.size, 0, none⟩)]) he)
  unfold dsO at HS HB0
  clear h hT hm hK hb0 he
  generalize errG x most ts = r at HS ⊢
  go_enter Tryz.func19, Tryz.ntmps19
  go_wp2_with (fail)
  refine HS.out.mono ?_
  rintro e w1 ⟨rfl, b1⟩
  have HB := Lib.hid (HB0.out.trans (b1.mono HB0.out.size))
  clear b1
  go_wp2_with (fail)
  exact bodyPost_ret (results_tmp2 rfl _ _ _) rfl ⟨rfl, HB.out⟩
set_option maxRecDepth 100000 in
theorem gen_greedy_not (most : Int) (he : errG x most ts ≠ 0) :
    Calls Tryz.prog 21 #[.pointer (some ⟨b, 0, none⟩), .slice T m d, .int .i64 most] w fun e w' => e = .returned (.tuple #[.slice none 0 0, .int .i64 (errG x most ts)]) ∧ Below w.heap.size w w' := by
  have HS := Lib.hid (gen_say_not w b x s h T m d ts hT hm hK most (.func (.func 49) #[] #[]) he)
  clear h hT hm hK he
  generalize errG x most ts = r at HS ⊢
  go_enter Tryz.func21, Tryz.ntmps21
  go_wp2_with (fail)
  refine HS.out.mono ?_
  rintro e w1 ⟨rfl, b1⟩
  have HB := Lib.hid b1
  clear b1
  go_wp2_with (fail)
  exact bodyPost_ret (results_tmp2 rfl _ _ _) rfl ⟨rfl, HB.out⟩
include hk
set_option maxRecDepth 100000 in
set_option maxHeartbeats 1600000 in
theorem gen_gen (D : Option Addr) (nd cd : Nat) (ds : List Int) (hd : ds.length = nd) (hD : KIn .i64 w D ds) (M : Nat) (he : errG x (M : Int) ts = 0) (hp : POn w) (hg : GOn w) :
    Calls Tryz.prog 19 #[.pointer (some ⟨b, 0, none⟩), .slice T m d, .int .i64 (M : Int), .slice D nd cd] w (SaidSays w (genT x s (takeD ds) M 0 ts)) := by
  have hb0 := (Below.refl w.heap.size w).alloc (Nat.le_refl _) (dsO D nd cd)
  have hn0 := heap_alloc_new w (dsO D nd cd)
  have HB0 := Lib.hid hb0
  have HS := Lib.hid (gen_say (w.alloc (dsO D nd cd)) b x s (Br.stays h hb0) hk T m d ts hT hm (hK.below hb0 (Nat.le_refl _)) M he (hp.below hb0 (Nat.le_refl _)) (hg.below hb0 (Nat.le_refl _)) 45 #[.pointer (some ⟨w.heap.size, 0, none⟩)] (takeD ds) (takeD_in ds) eg_gen1
    (fun W hW i n c A sc hn h64 _ hA => gen_gen1 W i n c A sc hn h64 hA w.heap.size D nd cd ds (ds_stays hn0 hW) hd (hD.below (hb0.trans (hW.mono hb0.size)) (Nat.le_refl _)) (hp.below (hb0.trans (hW.mono hb0.size)) (Nat.le_refl _))))
  unfold dsO at HS HB0
  clear h hk hT hm hK hd hD he hp hg hb0 hn0
  generalize genT x s (takeD ds) M 0 ts = G at HS ⊢
  go_enter Tryz.func19, Tryz.ntmps19
  go_wp2_with (fail)
  refine HS.out.mono ?_
  rintro e w1 ⟨SA, sc, rfl, hka, hcp, b1⟩
  have HB := Lib.hid (HB0.out.trans (b1.mono HB0.out.size))
  have HKA := Lib.hid hka
  have HCP := Lib.hid hcp
  clear b1 hka hcp
  go_wp2_with (fail)
  exact bodyPost_ret (results_tmp2 rfl _ _ _) rfl ⟨SA, sc, rfl, HKA.out, HCP.out, HB.out⟩
set_option maxRecDepth 100000 in
set_option maxHeartbeats 1600000 in
theorem gen_greedy (M : Nat) (he : errG x (M : Int) ts = 0) (hp : POn w) (hg : GOn w) :
    Calls Tryz.prog 21 #[.pointer (some ⟨b, 0, none⟩), .slice T m d, .int .i64 (M : Int)] w (SaidSays w (genT x s takeB M 0 ts)) := by
  have HS := Lib.hid (gen_say w b x s h hk T m d ts hT hm hK M he hp hg 49 #[] takeB takeB_in eg_greedy1
    (fun W hW i n c A sc hn h64 _ hA => gen_greedy1 W i n c A sc hn h64 hA))
  clear h hk hT hm hK he hp hg
  generalize genT x s takeB M 0 ts = G at HS ⊢
  go_enter Tryz.func21, Tryz.ntmps21
  go_wp2_with (fail)
  refine HS.out.mono ?_
  rintro e w1 ⟨SA, sc, rfl, hka, hcp, b1⟩
  have HB := Lib.hid b1
  have HKA := Lib.hid hka
  have HCP := Lib.hid hcp
  clear b1 hka hcp
  go_wp2_with (fail)
  exact bodyPost_ret (results_tmp2 rfl _ _ _) rfl ⟨SA, sc, rfl, HKA.out, HCP.out, HB.out⟩
end
section
variable (w : World) (T : Option Addr) (m d : Nat) (most : Int)
set_option maxRecDepth 100000 in
theorem gen_say_nil (f : Value) : Calls Tryz.prog 44 #[.pointer none, .slice T m d, .int .i64 most, f] w fun e w' => e = .returned (.tuple #[.slice none 0 0, .int .i64 2]) ∧ Below w.heap.size w w' := by
  go_enter Tryz.func44, Tryz.ntmps44
  go_wp2_with (fail)
  refine (gen_check_nil w T m d most).mono ?_
  rintro e w1 ⟨rfl, b1⟩
  have HB := Lib.hid b1
  clear b1
  go_wp2_with (fail)
  exact bodyPost_ret (results_tmp2 rfl _ _ _) rfl ⟨rfl, HB.out⟩
set_option maxRecDepth 100000 in
theorem gen_gen_nil (D : Option Addr) (nd cd : Nat) : Calls Tryz.prog 19 #[.pointer none, .slice T m d, .int .i64 most, .slice D nd cd] w fun e w' => e = .returned (.tuple #[.slice none 0 0, .int .i64 2]) ∧ Below w.heap.size w w' := by
  have HB0 := Lib.hid ((Below.refl w.heap.size w).alloc (Nat.le_refl _) (.cells #[.slice D nd cd] 45 (0, 0)))
  go_enter Tryz.func19, Tryz.ntmps19
  go_wp2_with (fail)
  refine (gen_say_nil _ T m d most _).mono ?_
  rintro e w1 ⟨rfl, b1⟩
  have HB := Lib.hid (HB0.out.trans (b1.mono HB0.out.size))
  clear b1
  go_wp2_with (fail)
  exact bodyPost_ret (results_tmp2 rfl _ _ _) rfl ⟨rfl, HB.out⟩
set_option maxRecDepth 100000 in
theorem gen_greedy_nil : Calls Tryz.prog 21 #[.pointer none, .slice T m d, .int .i64 most] w fun e w' => e = .returned (.tuple #[.slice none 0 0, .int .i64 2]) ∧ Below w.heap.size w w' := by
  go_enter Tryz.func21, Tryz.ntmps21
  go_wp2_with (fail)
  refine (gen_say_nil w T m d most _).mono ?_
  rintro e w1 ⟨rfl, b1⟩
  have HB := Lib.hid b1
  clear b1
  go_wp2_with (fail)
  exact bodyPost_ret (results_tmp2 rfl _ _ _) rfl ⟨rfl, HB.out⟩
end
end Go.Proofs.YtkdkeokldcehhaaGreatDoor
