/-
  StepRuns: run at once, or one by one, in whatever parts, entries and scores are the same. The walk where the run goes well. Condition: the tables lie where they are looked up.
-/
import Derived.Test.YtijmjlognekcjaaDoorMg25
import Derived.Test.YtijmjlognekcjaaDoorMg11
import Derived.Test.YtijmjlognekcjaaDoorMg15
import Derived.Test.YtijmjlognekcjaaDoorMg12
import Derived.Test.YtijmjlognekcjaaDoorMg17
set_option maxRecDepth 100000
namespace Go.Proofs.YtijmjlognekcjaaDoor
open Go.ChangeShapes Go.WideShapes Go.ChangeAt Go.RowKit Cf Vc Br Nr Sf Ac Sp

namespace Sp
theorem entOne (A B : Option Addr) (n m c d : Nat) : Tryd.prog.builtSlice 36 1 [(0, .agg #[.slice A n c, .slice B m d])] = some #[.slice A n c, .slice B m d] := by kernel_rfl
theorem ints_self (w : World) (A : Option Addr) (n c : Nat) (B : Option Addr) (m c' : Nat) (zs : List Int) (hz : zs.length = n) (hu : zs.length = m) (hm : n ≤ 1000000) (hA : KIn .i64 w A zs) (hB : KIn .i64 w B zs) :
    Calls Tryd.prog 11 #[.slice A n c, .slice B m c'] w fun e w' => e = .returned (.bool true) ∧ ∃ k, w' = w.drewN k := by
  have := ints_any w A n c B m c' zs zs hz hu hm hA hB
  rwa [show decide (zs = zs) = true from decide_eq_true rfl] at this
end Sp
namespace stepRuns
section
variable (w : World) (x : Cfg) (s : ByteArray) (T : Option Addr) (n c : Nat) (ts : List Int) (turn : Int) (hp : POn w) (hg : GOn w) (hts : ts.length = n) (hK : KIn .i64 w T ts) (hcap : n ≤ c)
set_option maxRecDepth 100000 in
set_option maxHeartbeats 12800000 in
include hp hg hts hK hcap in
theorem leaf_ok (h : n ≤ 8) (hs : smallZ x = true) (hl : s.size ≤ 2048) (hk : Ok x s) (he : errR x [] ts = 0) : Calls Tryd.prog 3 #[cfV x, .string s, .slice T n c, .int .i64 turn] w fun e w' => e = .returned (.bool true) ∧ Below w.heap.size w w' := by
  have HO := Lib.hid (fun W => brain_of W x s hk)
  have HAW := Lib.hid (fun W (hW : Below w.heap.size w W) => awake17 W (hp.below hW (Nat.le_refl _)) (hg.below hW (Nat.le_refl _)))
  have HB0 := Lib.hid ((Below.refl w.heap.size w).alloc (Nat.le_refl _) (cfO 23 x))
  have HH0 := Lib.hid (heap_alloc_new w (cfO 23 x))
  have HSM := Lib.hid (fun W => small_any x W)
  rw [hs] at HSM
  have t0 : ¬ 8 < (n : Int) := by omega
  have t1 : decide (8 < (n : Int)) = false := decide_eq_false t0
  have t2 : ¬ 2048 < (s.size : Int) := by omega
  have t3 : decide (2048 < (s.size : Int)) = false := decide_eq_false t2
  have hn0 : 0 < n := by rw [← hts]; exact List.length_pos_iff.2 (errR_ok.1 he).1
  have HN8 := Lib.hid (And.intro hn0 (And.intro h hcap))
  have HNM := Lib.hid (show n ≤ 1000000 from by omega)
  have HVM := Lib.hid (show vN x ≤ 1000000 from by have := vN_small hk; omega)
  have HRUN := Lib.hid (fun W b (A : Option Addr) (k ac : Nat) (Q : List (Er × Ent)) (V : Option Addr) (m vc : Nat) (us : List Int) (hW : Below w.heap.size w W) (hb : W.heap[b]? = some (brO x s)) (hQ : Q.length = k) (hk9 : k ≤ 9) (hA : EsIn W A Q) (hu : us.length = m) (hm9 : m ≤ 9) (hV : KIn .i64 W V us) (he : errR x (past Q) us = 0) =>
    show Calls Tryd.prog 8 #[.pointer (some ⟨b, 0, none⟩), .slice A k ac, .slice V m vc] W fun e w' => ∃ EA ec SA sc R, e = .returned (.tuple #[.slice EA m ec, .slice SA (vN x) sc, .int .i64 0]) ∧ past R = runE x s (past Q) us ∧ R.length = m ∧ EsIn w' EA R ∧ KIn .i64 w' SA (runS x s (past Q) us) ∧ (runS x s (past Q) us).length = vN x ∧ Below W.heap.size W w' from
    (step_run W A k ac Q V m vc us b x s hb hk hQ (by omega) hA hu (by omega) hV he (hp.below hW (Nat.le_refl _)) (hg.below hW (Nat.le_refl _))).mono fun e w' ⟨EA, ec, SA, sc, R, h1, h2, h3, h4, h5, _, h7⟩ => ⟨EA, ec, SA, sc, R, by rw [hu] at h1; exact h1, h2, by
      have := congrArg List.length h2
      rw [past_length, runE_length, hu] at this
      exact this, h3, h4, h5, h7⟩)
  have HKT := Lib.hid (fun W (hW : Below w.heap.size w W) => hK.below hW (Nat.le_refl _))
  have HPG := Lib.hid (And.intro hp hg)
  have HKO := Lib.hid hk
  have HTL := Lib.hid hts
  have HER := Lib.hid he
  have HONE := Lib.hid (fun j (hj : j < n) => one_ok (s := s) he (j := j) (by omega))
  have HGET := Lib.hid (fun j (hj : j < n) => runE_get x s (ts := ts) (j := j) (by omega))
  have HSC := Lib.hid (fun j (hj : n = j + 1) => run_scores x s [] (ts := ts) (k := j) (by omega))
  have HNR := Lib.hid (fun W (b : Nat) (hb : W.heap[b]? = some (brO x s)) => show Calls Tryd.prog 8 #[.pointer (some ⟨b, 0, none⟩), .slice none 0 0, .slice none 0 0] W fun e w' => e = .returned (.tuple #[.slice none 0 0, .slice none 0 0, .int .i64 1]) ∧ Below W.heap.size W w' from by
    have e1 : errR x (past []) [] = 1 := errR_none x _
    have := step_run_not W none 0 0 [] none 0 0 [] b x s hb hk rfl (by omega) (noEs W) rfl (by omega) (KIn.nil _ _ _) (by rw [e1]; decide)
    rw [e1] at this
    exact this)
  obtain ⟨j0, hj0, hy0, hy1, hy2⟩ := info_parts info_entry
  have HJ := Lib.hid hj0
  have HY0 := Lib.hid hy0
  have HY1 := Lib.hid hy1
  have HY2 := Lib.hid hy2
  clear hj0 hy0 hy1 hy2 hp hg h hs hl hk he hts hK hn0 hcap
  unfold cfV cfA at *
  go_enter Tryd.func3, Tryd.ntmps3
  go_wp2_with (fail)
  refine (HAW.out _ HB0.out).mono ?_
  rintro e w1 ⟨rfl, b1⟩
  have HB1 := Lib.hid (HB0.out.trans (b1.mono HB0.out.size))
  have HH1 := Lib.hid (Cf.stays HH0.out b1)
  clear b1 HAW HB0 HH0
  obtain ⟨e0, e1, e2, e3, e4, e5⟩ := six HH1.out
  go_wp2_with (fail)
  refine (HSM.out _).mono ?_
  rintro e w2 ⟨rfl, b2⟩
  have HB2 := Lib.hid (HB1.out.trans (b2.mono HB1.out.size))
  have HH2 := Lib.hid (Cf.stays HH1.out b2)
  clear b2 e0 e1 e2 e3 e4 e5 HB1 HH1
  obtain ⟨e0, e1, e2, e3, e4, e5⟩ := six HH2.out
  go_wp2_with (fail)
  refine (HO.out _).mono ?_
  rintro e w3 ⟨b, rfl, hb, hh, b3⟩
  have HB3 := Lib.hid (HB2.out.trans (b3.mono HB2.out.size))
  have HH3 := Lib.hid (Cf.stays HH2.out b3)
  have HR3 := Lib.hid hh
  clear b3 hb hh e0 e1 e2 e3 e4 e5 HB2 HH2 HO HSM
  go_wp2_with (fail)
  refine (HRUN.out w3 b none 0 0 [] T n c ts HB3.out HR3.out rfl (by omega) (noEs w3) HTL.out (by have := HN8.out; omega) (HKT.out _ HB3.out) HER.out).mono ?_
  rintro e w4 ⟨EA, ec, SA, sc, R, rfl, hpR, hRn, hEI, hKI, hrl, b4⟩
  have HB4 := Lib.hid (HB3.out.trans (b4.mono HB3.out.size))
  have HR4 := Lib.hid (Br.stays HR3.out b4)
  have HPR := Lib.hid (show past R = runE x s [] ts from hpR)
  have HRN := Lib.hid hRn
  have HEA := Lib.hid hEI
  have HSA0 := Lib.hid (show KIn .i64 w4 SA (runS x s [] ts) from hKI)
  have HSL := Lib.hid (show (runS x s [] ts).length = vN x from hrl)
  clear b4 hpR hRn hEI hKI hrl HB3 HH3 HR3
  go_wp2_with (with_reducible refine wpList_buildNone rfl 31 36 rfl j0 Tryd.underlying31 HJ.out ?_)
  obtain ⟨n1, hn1⟩ : ∃ n1, n = n1 + 1 := ⟨n - 1, by have := HN8.out; omega⟩
  have HN1 := Lib.hid hn1
  have HSUB := Lib.hid (show wrap64 ((n : Int) - 1) = (n1 : Int) ∧ IntKind.i64.wrap ((n : Int) - 1) = (n1 : Int) from ⟨(IntWalk.wrap64_in _ (by have := HN8.out; omega)).trans (by omega), (IntWalk.i64_in _ (by have := HN8.out; omega)).trans (by omega)⟩)
  clear hn1
  go_loopw [16, 17] (fun pv i wr => ∃ (j : Nat) (A : Option Addr) (ac : Nat) (R' : List (Er × Ent)), pv = .slice A j ac ∧ i = .int .i64 (j : Int) ∧ j ≤ n ∧ R'.length = j ∧ Gath w4.heap.size wr (.slice A j ac) R' ∧ past R' = runE x s [] (ts.take j) ∧ Below w4.heap.size w4 wr) (fun _ i _ => match i with | .int _ k => n - k.toNat | _ => 0)
  case atStart => exact ⟨0, some ⟨w4.heap.size, 0, none⟩, 0, [], rfl, rfl, Nat.zero_le _, rfl, ⟨World.ownsRow_made w4 #[] 0 (Nat.le_refl _) (Nat.zero_le _) rfl, fun q hq => by cases hq⟩, rfl, (Below.refl _ _).alloc (Nat.le_refl _) _⟩
  case round =>
    obtain ⟨j, A, ac, R', rfl, rfl, hj, hrl, hga, hpr, hwb⟩ := hrel
    have HRL := Lib.hid hrl
    have HGA := Lib.hid hga
    have HPR2 := Lib.hid hpr
    have HWB := Lib.hid hwb
    have HB5 := Lib.hid (HB4.out.trans (hwb.mono HB4.out.size))
    clear hrl hga hpr hwb
    have x2 : 0 ≤ (j : Int) := by omega
    by_cases hlt : j < n
    · have x0 : (j : Int) < (n : Int) := by omega
      have x1 : decide ((j : Int) < (n : Int)) = true := decide_eq_true x0
      have HLT := Lib.hid hlt
      obtain ⟨pa, oa, hTe, hc1⟩ := (HKT.out _ HB5.out).at (show j < ts.length by rw [HTL.out]; exact hlt)
      subst hTe
      have HST := Lib.hid (show Calls Tryd.prog 9 #[.pointer (some ⟨b, 0, none⟩), .slice A j ac, .int .i64 (ts.getD j 0)] wr (StepSays wr x s (runE x s [] (ts.take j)) (ts.getD j 0)) from by
        have := step_step wr A j ac R' (ts.getD j 0) b x s (Br.stays HR4.out HWB.out) HKO.out HRL.out (by have := HN8.out; omega) HGA.out.es (by rw [HPR2.out]; exact HONE.out j hlt) (HPG.out.1.below HB5.out (Nat.le_refl _)) (HPG.out.2.below HB5.out (Nat.le_refl _))
        rw [HPR2.out] at this
        exact this)
      unfold StepSays at HST
      have hgq := getD_some (Q := R) (j := j) (by rw [HRN.out]; exact hlt)
      have hE5 := HEA.out.below HWB.out
      obtain ⟨pb, pq, hEe, g1, g2⟩ := hE5.row.cell hgq
      subst hEe
      have HQ2 := Lib.hid (past_getD HPR.out (HGET.out j hlt))
      have HQE := Lib.hid (hE5.all (R.getD j noQ) (List.mem_of_getElem? hgq))
      generalize R.getD j noQ = q at g1 g2 HQ2 HQE
      have HCG := Lib.hid (And.intro g1 g2)
      have HEF := Lib.hid (ent_fit HKO.out.good.is (entZ_good x s (runE x s [] (ts.take j)) (ts.getD j 0)))
      have HS2 := Lib.hid (fun h : n = j + 1 => (HSC.out j h).symm)
      have HRE := Lib.hid (fun r => show past (R' ++ [(r, entZ x s (runE x s [] (ts.take j)) (ts.getD j 0))]) = runE x s [] (ts.take (j + 1)) from by
        rw [past_append, HPR2.out]
        exact (run_next x s [] (show j < ts.length by rw [HTL.out]; exact hlt)).symm)
      have HS3 := Lib.hid (show n = j + 1 → scoZ x s (runE x s [] (ts.take j)) (ts.getD j 0) = runS x s [] ts from fun h => HS2.out h)
      generalize ts.getD j 0 = z at hc1 HST HQ2 HEF HRE HS3
      generalize entZ x s (runE x s [] (ts.take j)) z = E1 at HST HQ2 HEF HRE
      generalize scoZ x s (runE x s [] (ts.take j)) z = SC2 at HST HS3
      clear g1 g2 hgq hE5 HS2
      go_wp2_with (fail)
      refine HST.out.mono ?_
      rintro e w5 ⟨r, SA2, sc2, rfl, hE, hK2, hl2, hfr, b5⟩
      unfold eV
      have b6 := (Below.refl w5.heap.size w5).alloc (Nat.le_refl _) (.cells #[.slice r.kA E1.ks.length r.kc, .slice r.vA E1.vs.length r.vc] 36)
      have hn6 := heap_alloc_new w5 (.cells #[.slice r.kA E1.ks.length r.kc, .slice r.vA E1.vs.length r.vc] 36)
      have HE6 := Lib.hid (hE.below b6)
      have HK6 := Lib.hid (hK2.below b6 (Nat.le_refl _))
      have HL6 := Lib.hid hl2
      have HF6 := Lib.hid hfr
      have HB56 := Lib.hid (b5.trans (b6.mono b5.size))
      have HQ6 := Lib.hid (HQE.out.below HB56.out)
      have HSW := Lib.hid (fun W (hW : Below (w5.alloc (.cells #[.slice r.kA E1.ks.length r.kc, .slice r.vA E1.vs.length r.vc] 36)).heap.size (w5.alloc (.cells #[.slice r.kA E1.ks.length r.kc, .slice r.vA E1.vs.length r.vc] 36)) W) => show Calls Tryd.prog 10 #[.agg #[.slice r.kA E1.ks.length r.kc, .slice r.vA E1.vs.length r.vc], .agg #[.slice q.1.kA q.2.ks.length q.1.kc, .slice q.1.vA q.2.vs.length q.1.vc]] W fun e w' => e = .returned (.bool true) ∧ Below W.heap.size W w' from by
        have := step_same W r E1 q.1 q.2 (HE6.out.below hW) (HQ6.out.below hW) HEF.out
        rw [HQ2.out, sameE_self] at this
        rw [HQ2.out]
        exact this)
      have HKX := Lib.hid (fun W (hW : Below (w5.alloc (.cells #[.slice r.kA E1.ks.length r.kc, .slice r.vA E1.vs.length r.vc] 36)).heap.size (w5.alloc (.cells #[.slice r.kA E1.ks.length r.kc, .slice r.vA E1.vs.length r.vc] 36)) W) => show W.cell? ⟨w5.heap.size, 0, none⟩ = some (.slice r.kA E1.ks.length r.kc) ∧ W.cell? ⟨w5.heap.size, 1, none⟩ = some (.slice r.vA E1.vs.length r.vc) ∧ W.cell? ⟨pb, pq + j * 2, none⟩ = some (.slice q.1.kA q.2.ks.length q.1.kc) ∧ W.cell? ⟨pb, pq + j * 2 + 1, none⟩ = some (.slice q.1.vA q.2.vs.length q.1.vc) from by
        have h1 := (hW.block _ (Array.getElem?_eq_some_iff.1 hn6).1).trans hn6
        exact ⟨by rw [cell_of_row _ _ _ _ _ _ h1]; rfl, by rw [cell_of_row _ _ _ _ _ _ h1]; rfl, hb0c4 hW (hb0c4 HB56.out HCG.out.1), hb0c4 hW (hb0c4 HB56.out HCG.out.2)⟩)
      have HIX := Lib.hid (fun W (hW : Below (w5.alloc (.cells #[.slice r.kA E1.ks.length r.kc, .slice r.vA E1.vs.length r.vc] 36)).heap.size (w5.alloc (.cells #[.slice r.kA E1.ks.length r.kc, .slice r.vA E1.vs.length r.vc] 36)) W) => ints_any W SA2 (vN x) sc2 SA (vN x) sc SC2 (runS x s [] ts) HL6.out HSL.out (by have := vN_small HKO.out; omega) (HK6.out.below hW (Nat.le_refl _)) (HSA0.out.below (HWB.out.trans ((HB56.out.trans (hW.mono HB56.out.size)).mono HWB.out.size)) (Nat.le_refl _)))
      have HWB6 := Lib.hid (HWB.out.trans (HB56.out.mono HWB.out.size))
      have HGA6 := Lib.hid (HGA.out.step HB56.out)
      have HEN := Lib.hid (show eC r E1 = [.slice r.kA E1.ks.length r.kc, .slice r.vA E1.vs.length r.vc] from rfl)
      clear b5 b6 hn6 hE hK2 hl2 hfr HCG HQ6
      generalize hw6 : w5.alloc (.cells #[.slice r.kA E1.ks.length r.kc, .slice r.vA E1.vs.length r.vc] 36) = w6 at HE6 HK6 HB56 HSW HKX HIX HWB6 HGA6
      have HW6 := Lib.hid hw6
      clear hw6
      have B6D := Lib.hid (below_drewN (Below.refl w6.heap.size w6) 1)
      have a1 := HSUB.out.1
      have a2 := HSUB.out.2
      have x3 := IntWalk.wrap64_in ((j : Int) + 1) (by have := HN8.out; omega)
      generalize q.2.ks.length = mk at HSW HKX
      generalize q.2.vs.length = mv at HSW HKX
      generalize hnk : E1.ks.length = nk at *
      generalize hnv : E1.vs.length = nv at *
      have HNKV := Lib.hid (And.intro hnk hnv)
      clear hnk hnv
      have HSA := Lib.hid HSW.out
      have HK4 := Lib.hid HKX.out
      have k0 := HK4.out _ B6D.out
      by_cases hlast : j = n1
      · have t5 : ((j : Int) == (n1 : Int)) = true := by rw [hlast]; exact beq_self_eq_true _
        have HIN := Lib.hid (fun W hW => by
          have := HIX.out W hW
          rw [decide_eq_true (HS3.out (by rw [hlast]; exact HN1.out))] at this
          exact this)
        clear hlast
        go_wp2_with (fail)
        rw [HW6.out]
        refine wp_region_noPanic ?_
        refine wp_region_held_drew (S := (fun W : World => W.cell? ⟨w5.heap.size, 0, none⟩ = some (.slice r.kA nk r.kc) ∧ W.cell? ⟨w5.heap.size, 1, none⟩ = some (.slice r.vA nv r.vc) ∧ W.cell? ⟨pb, pq + j * 2, none⟩ = some (.slice q.1.kA mk q.1.kc) ∧ W.cell? ⟨pb, pq + j * 2 + 1, none⟩ = some (.slice q.1.vA mv q.1.vc))) (by kernel_rfl) k0 (fun hHeld => ?_)
        refine wpAnyH_takeAt (i := 0) (v := .int .i64 0) 129 rfl rfl (by kernel_rfl) (by kernel_rfl) (by kernel_rfl) (fun _ _ _ h => h) (Or.inl ⟨by rfl, ?_⟩) hHeld ?_
        · intro W hW
          try dsimp only at hW
          go_simp
        simp only [Act.put, List.setIfInBounds_toArray, List.set_cons_succ, List.set_cons_zero]
        refine wpAnyH_takeAt (i := 1) (v := .bool false) 130 rfl rfl (by kernel_rfl) (by kernel_rfl) (by kernel_rfl) (fun _ _ _ h => h) (Or.inl ⟨by rfl, ?_⟩) hHeld ?_
        · intro W hW
          try dsimp only at hW
          go_simp
        simp only [Act.put, List.setIfInBounds_toArray, List.set_cons_succ, List.set_cons_zero]
        refine wpAnyH_takeAt (i := 2) (v := .bool false) 131 rfl rfl (by kernel_rfl) (by kernel_rfl) (by kernel_rfl) (fun _ _ _ h => h) (Or.inl ⟨by rfl, ?_⟩) hHeld ?_
        · intro W hW
          try dsimp only at hW
          go_simp
        simp only [Act.put, List.setIfInBounds_toArray, List.set_cons_succ, List.set_cons_zero]
        refine wpAnyH_takeAt (i := 3) (v := .agg #[.slice r.kA nk r.kc, .slice r.vA nv r.vc]) 132 rfl rfl (by kernel_rfl) (by kernel_rfl) (by kernel_rfl) (fun _ _ _ h => h) (Or.inl ⟨by rfl, ?_⟩) hHeld ?_
        · intro W hW
          try dsimp only at hW
          go_simp
        simp only [Act.put, List.setIfInBounds_toArray, List.set_cons_succ, List.set_cons_zero]
        refine wpAnyH_takeAt (i := 4) (v := .slice (some ⟨pb, pq, none⟩) n ec) 133 rfl rfl (by kernel_rfl) (by kernel_rfl) (by kernel_rfl) (fun _ _ _ h => h) (Or.inl ⟨by rfl, ?_⟩) hHeld ?_
        · intro W hW
          try dsimp only at hW
          go_simp
        simp only [Act.put, List.setIfInBounds_toArray, List.set_cons_succ, List.set_cons_zero]
        refine wpAnyH_takeAt (i := 5) (v := .int .i64 (j : Int)) 134 rfl rfl (by kernel_rfl) (by kernel_rfl) (by kernel_rfl) (fun _ _ _ h => h) (Or.inl ⟨by rfl, ?_⟩) hHeld ?_
        · intro W hW
          try dsimp only at hW
          go_simp
        simp only [Act.put, List.setIfInBounds_toArray, List.set_cons_succ, List.set_cons_zero]
        refine wpAnyH_takeAt (i := 6) (v := .pointer (some ⟨pb, pq + j * 2, none⟩)) 135 rfl rfl (by kernel_rfl) (by kernel_rfl) (by kernel_rfl) (fun _ _ _ h => h) (Or.inl ⟨by rfl, ?_⟩) hHeld ?_
        · intro W hW
          try dsimp only at hW
          go_simp
        simp only [Act.put, List.setIfInBounds_toArray, List.set_cons_succ, List.set_cons_zero]
        refine wpAnyH_takeAt (i := 7) (v := .agg #[.slice q.1.kA mk q.1.kc, .slice q.1.vA mv q.1.vc]) 136 rfl rfl (by kernel_rfl) (by kernel_rfl) (by kernel_rfl) (fun _ _ _ h => h) (Or.inl ⟨by rfl, ?_⟩) hHeld ?_
        · intro W hW
          try dsimp only at hW
          go_simp
        simp only [Act.put, List.setIfInBounds_toArray, List.set_cons_succ, List.set_cons_zero]
        refine wpAnyH_ready (rs := [8]) (by kernel_rfl) (by simp) ?_
        refine AllReadyH.cons rfl (fun K hK => ?_) AllReadyH.nil
        go_simp
        refine (HSA.out _ B6D.out).mono ?_
        rintro e w7 ⟨rfl, b7⟩
        have B7 := Lib.hid (B6D.out.trans (b7.mono B6D.out.size))
        have k7 := HK4.out _ B7.out
        clear b7
        refine hK.out _ _ k7 (fun hHeld2 => ?_)
        clear hK K hHeld
        have hHeld := hHeld2
        clear hHeld2
        try simp only [Act.put, List.setIfInBounds_toArray, List.set_cons_succ, List.set_cons_zero]
        refine wpAnyH_takeAt (i := 9) (v := .bool false) 138 rfl rfl (by kernel_rfl) (by kernel_rfl) (by kernel_rfl) (fun _ _ _ h => h) (Or.inl ⟨by rfl, ?_⟩) hHeld ?_
        · intro W hW
          try dsimp only at hW
          go_simp
        simp only [Act.put, List.setIfInBounds_toArray, List.set_cons_succ, List.set_cons_zero]
        refine wpAnyH_takeAt (i := 10) (v := .bool false) 139 rfl rfl (by kernel_rfl) (by kernel_rfl) (by kernel_rfl) (fun _ _ _ h => h) (Or.inl ⟨by rfl, ?_⟩) hHeld ?_
        · intro W hW
          try dsimp only at hW
          go_simp
        simp only [Act.put, List.setIfInBounds_toArray, List.set_cons_succ, List.set_cons_zero]
        refine wpAnyH_takeAt (i := 11) (v := .bool false) 140 rfl rfl (by kernel_rfl) (by kernel_rfl) (by kernel_rfl) (fun _ _ _ h => h) (Or.inl ⟨by rfl, ?_⟩) hHeld ?_
        · intro W hW
          try dsimp only at hW
          go_simp
        simp only [Act.put, List.setIfInBounds_toArray, List.set_cons_succ, List.set_cons_zero]
        refine wpAnyH_takeAt (i := 12) (v := .int .i64 (j : Int)) 141 rfl rfl (by kernel_rfl) (by kernel_rfl) (by kernel_rfl) (fun _ _ _ h => h) (Or.inl ⟨by rfl, ?_⟩) hHeld ?_
        · intro W hW
          try dsimp only at hW
          go_simp
        simp only [Act.put, List.setIfInBounds_toArray, List.set_cons_succ, List.set_cons_zero]
        refine wpAnyH_takeAt (i := 13) (v := .slice (some ⟨pa, oa, none⟩) n c) 142 rfl rfl (by kernel_rfl) (by kernel_rfl) (by kernel_rfl) (fun _ _ _ h => h) (Or.inl ⟨by rfl, ?_⟩) hHeld ?_
        · intro W hW
          try dsimp only at hW
          go_simp
        simp only [Act.put, List.setIfInBounds_toArray, List.set_cons_succ, List.set_cons_zero]
        refine wpAnyH_takeAt (i := 14) (v := .int .i64 (n : Int)) 143 rfl rfl (by kernel_rfl) (by kernel_rfl) (by kernel_rfl) (fun _ _ _ h => h) (Or.inl ⟨by rfl, ?_⟩) hHeld ?_
        · intro W hW
          try dsimp only at hW
          go_simp
        simp only [Act.put, List.setIfInBounds_toArray, List.set_cons_succ, List.set_cons_zero]
        refine wpAnyH_takeAt (i := 15) (v := .int .i64 (n1 : Int)) 144 rfl rfl (by kernel_rfl) (by kernel_rfl) (by kernel_rfl) (fun _ _ _ h => h) (Or.inl ⟨by rfl, ?_⟩) hHeld ?_
        · intro W hW
          try dsimp only at hW
          go_simp
        simp only [Act.put, List.setIfInBounds_toArray, List.set_cons_succ, List.set_cons_zero]
        refine wpAnyH_takeAt (i := 16) (v := .bool true) 145 rfl rfl (by kernel_rfl) (by kernel_rfl) (by kernel_rfl) (fun _ _ _ h => h) (Or.inl ⟨by rfl, ?_⟩) hHeld ?_
        · intro W hW
          try dsimp only at hW
          go_simp
        simp only [Act.put, List.setIfInBounds_toArray, List.set_cons_succ, List.set_cons_zero]
        refine wpAnyH_takeAt (i := 17) (v := .bool true) 146 rfl rfl (by kernel_rfl) (by kernel_rfl) (by kernel_rfl) (fun _ _ _ h => h) (Or.inl ⟨by rfl, ?_⟩) hHeld ?_
        · intro W hW
          try dsimp only at hW
          go_simp
        simp only [Act.put, List.setIfInBounds_toArray, List.set_cons_succ, List.set_cons_zero]
        refine wpAnyH_takeAt (i := 18) (v := .slice SA2 (vN x) sc2) 147 rfl rfl (by kernel_rfl) (by kernel_rfl) (by kernel_rfl) (fun _ _ _ h => h) (Or.inl ⟨by rfl, ?_⟩) hHeld ?_
        · intro W hW
          try dsimp only at hW
          go_simp
        simp only [Act.put, List.setIfInBounds_toArray, List.set_cons_succ, List.set_cons_zero]
        refine wpAnyH_takeAt (i := 19) (v := .slice SA (vN x) sc) 148 rfl rfl (by kernel_rfl) (by kernel_rfl) (by kernel_rfl) (fun _ _ _ h => h) (Or.inl ⟨by rfl, ?_⟩) hHeld ?_
        · intro W hW
          try dsimp only at hW
          go_simp
        simp only [Act.put, List.setIfInBounds_toArray, List.set_cons_succ, List.set_cons_zero]
        refine wpAnyH_ready (rs := [20]) (by kernel_rfl) (by simp) ?_
        refine AllReadyH.cons rfl (fun K hK => ?_) AllReadyH.nil
        go_simp
        refine (HIN.out _ B7.out).mono ?_
        rintro e w8 ⟨rfl, q8, rfl⟩
        have B8 := Lib.hid (below_drewN B7.out q8)
        have k8 := HK4.out _ B8.out
        refine hK.out _ _ k8 (fun hHeld2 => ?_)
        clear hK K hHeld
        have hHeld := hHeld2
        clear hHeld2
        try simp only [Act.put, List.setIfInBounds_toArray, List.set_cons_succ, List.set_cons_zero]
        refine wpAnyH_takeAt (i := 21) (v := .bool false) 150 rfl rfl (by kernel_rfl) (by kernel_rfl) (by kernel_rfl) (fun _ _ _ h => h) (Or.inl ⟨by rfl, ?_⟩) hHeld ?_
        · intro W hW
          try dsimp only at hW
          go_simp
        simp only [Act.put, List.setIfInBounds_toArray, List.set_cons_succ, List.set_cons_zero]
        refine wpAnyH_takeAt (i := 22) (v := .bool false) 151 rfl rfl (by kernel_rfl) (by kernel_rfl) (by kernel_rfl) (fun _ _ _ h => h) (Or.inl ⟨by rfl, ?_⟩) hHeld ?_
        · intro W hW
          try dsimp only at hW
          go_simp
        simp only [Act.put, List.setIfInBounds_toArray, List.set_cons_succ, List.set_cons_zero]
        refine wpAnyH_takeAt (i := 23) (v := .bool false) 152 rfl rfl (by kernel_rfl) (by kernel_rfl) (by kernel_rfl) (fun _ _ _ h => h) (Or.inl ⟨by rfl, ?_⟩) hHeld ?_
        · intro W hW
          try dsimp only at hW
          go_simp
        simp only [Act.put, List.setIfInBounds_toArray, List.set_cons_succ, List.set_cons_zero]
        refine wpAnyH_done (by kernel_rfl) ?_ _
        refine NoPanic.normal ?_
        refine gen_post (fun W : World => Below w6.heap.size w6 W) B8.out ?_
        intro wq hq
        have HGQ := Lib.hid (HGA6.out.step hq)
        have HEQ := Lib.hid (HE6.out.below hq)
        have HBQ := Lib.hid (HWB6.out.trans (hq.mono HWB6.out.size))
        obtain ⟨l1, l2, _, _⟩ := HK4.out wq hq
        have HAL := Lib.hid ((Below.refl wq.heap.size wq).alloc (Nat.le_refl _) (.cells #[.slice r.kA nk r.kc, .slice r.vA nv r.vc] 36))
        have HOWQ := Lib.hid (show World.ownsRow (wq.alloc (.cells #[.slice r.kA nk r.kc, .slice r.vA nv r.vc] 36)) w4.heap.size 36 2 (.slice A j ac) j (eCs R') from by
          have := own_moved HGQ.out.own fun i hi => HAL.out.block i (HGQ.out.own.lt i hi).2
          rwa [HRL.out] at this)
        have HNWQ := Lib.hid (show ∀ i u, (eC r E1)[i]? = some u → (wq.alloc (.cells #[.slice r.kA nk r.kc, .slice r.vA nv r.vc] 36)).cell? ((⟨wq.heap.size, 0, none⟩ : Addr).add i) = some u from by
          rw [HEN.out]
          exact World.news_of_block (heap_alloc_new wq (.cells #[.slice r.kA nk r.kc, .slice r.vA nv r.vc] 36)))
        have HTWO := Lib.hid (show ∀ u ∈ eC r E1, u.oneCell' = true from by
          rw [HEN.out]
          exact two_one _ _)
        have HSML := Lib.hid (show j + 1 ≤ maxLen ∧ (j + 1) * 48 ≤ 140737488355328 from by unfold maxLen; have := HN8.out; have := HLT.out; omega)
        have HLOQ := Lib.hid (Nat.le_trans HBQ.out.size HAL.out.size)
        have HMQ := Lib.hid (show ∀ i, (Value.slice A j ac).ownBlock = some i → i < wr.heap.size from fun i hi => (HGA.out.own.lt i hi).2)
        clear hq k0 a1 a2
        go_wp2_with (first
          | (refine Great.wpList_buildSliceTo rfl 31 36 1 #[(0, .tmp 154)] rfl _ rfl (some 155) rfl Tryd.underlying31 #[.slice r.kA nk r.kc, .slice r.vA nv r.vc] (entOne _ _ _ _ _ _) ?_)
          | (at_builtin; refine wpList_append_lies _ rfl (.tmp 153) (.tmp 155) 31 rfl w4.heap.size 36 j0 _ 2 48 Tryd.underlying31 HJ.out HY0.out HY1.out HY2.out rfl (by omega) (.slice A j ac) j (eCs R') rfl HOWQ.out ⟨wq.heap.size, 0, none⟩ 1 1 (eC r E1) rfl rfl HNWQ.out HTWO.out (by omega) HSML.out.1 HSML.out.2 HLOQ.out _ rfl ?_; intro g c4 wz hown hgrow hat hlt4))
        have hmore := HGQ.out.step HAL.out
        rw [← HRL.out] at hown
        have HGN := Lib.hid (hmore.more (HEQ.out.below HAL.out) HF6.out HMQ.out hown hgrow hat)
        rw [HRL.out] at HGN
        have HBN := Lib.hid ((HBQ.out.alloc HBQ.out.size (.cells #[.slice r.kA nk r.kc, .slice r.vA nv r.vc] 36)).grown hgrow HLOQ.out fun i hi => (HOWQ.out.lt i hi).1)
        clear hown hgrow hat hlt4 hmore
        go_wp2_with (fail)
        try rw [x3]
        exact ⟨⟨j + 1, some ⟨g, 0, none⟩, c4, R' ++ [(r, E1)], rfl, rfl, HLT.out, by rw [List.length_append, HRL.out]; rfl, HGN.out, HRE.out r, HBN.out⟩, vcLess j n HLT.out⟩
      · have t5 : ((j : Int) == (n1 : Int)) = false := beq_eq_false_iff_ne.2 (by omega)
        clear hlast
        go_wp2_with (fail)
        rw [HW6.out]
        refine wp_region_noPanic ?_
        refine wp_region_held_drew (S := (fun W : World => W.cell? ⟨w5.heap.size, 0, none⟩ = some (.slice r.kA nk r.kc) ∧ W.cell? ⟨w5.heap.size, 1, none⟩ = some (.slice r.vA nv r.vc) ∧ W.cell? ⟨pb, pq + j * 2, none⟩ = some (.slice q.1.kA mk q.1.kc) ∧ W.cell? ⟨pb, pq + j * 2 + 1, none⟩ = some (.slice q.1.vA mv q.1.vc))) (by kernel_rfl) k0 (fun hHeld => ?_)
        refine wpAnyH_takeAt (i := 0) (v := .int .i64 0) 129 rfl rfl (by kernel_rfl) (by kernel_rfl) (by kernel_rfl) (fun _ _ _ h => h) (Or.inl ⟨by rfl, ?_⟩) hHeld ?_
        · intro W hW
          try dsimp only at hW
          go_simp
        simp only [Act.put, List.setIfInBounds_toArray, List.set_cons_succ, List.set_cons_zero]
        refine wpAnyH_takeAt (i := 1) (v := .bool false) 130 rfl rfl (by kernel_rfl) (by kernel_rfl) (by kernel_rfl) (fun _ _ _ h => h) (Or.inl ⟨by rfl, ?_⟩) hHeld ?_
        · intro W hW
          try dsimp only at hW
          go_simp
        simp only [Act.put, List.setIfInBounds_toArray, List.set_cons_succ, List.set_cons_zero]
        refine wpAnyH_takeAt (i := 2) (v := .bool false) 131 rfl rfl (by kernel_rfl) (by kernel_rfl) (by kernel_rfl) (fun _ _ _ h => h) (Or.inl ⟨by rfl, ?_⟩) hHeld ?_
        · intro W hW
          try dsimp only at hW
          go_simp
        simp only [Act.put, List.setIfInBounds_toArray, List.set_cons_succ, List.set_cons_zero]
        refine wpAnyH_takeAt (i := 3) (v := .agg #[.slice r.kA nk r.kc, .slice r.vA nv r.vc]) 132 rfl rfl (by kernel_rfl) (by kernel_rfl) (by kernel_rfl) (fun _ _ _ h => h) (Or.inl ⟨by rfl, ?_⟩) hHeld ?_
        · intro W hW
          try dsimp only at hW
          go_simp
        simp only [Act.put, List.setIfInBounds_toArray, List.set_cons_succ, List.set_cons_zero]
        refine wpAnyH_takeAt (i := 4) (v := .slice (some ⟨pb, pq, none⟩) n ec) 133 rfl rfl (by kernel_rfl) (by kernel_rfl) (by kernel_rfl) (fun _ _ _ h => h) (Or.inl ⟨by rfl, ?_⟩) hHeld ?_
        · intro W hW
          try dsimp only at hW
          go_simp
        simp only [Act.put, List.setIfInBounds_toArray, List.set_cons_succ, List.set_cons_zero]
        refine wpAnyH_takeAt (i := 5) (v := .int .i64 (j : Int)) 134 rfl rfl (by kernel_rfl) (by kernel_rfl) (by kernel_rfl) (fun _ _ _ h => h) (Or.inl ⟨by rfl, ?_⟩) hHeld ?_
        · intro W hW
          try dsimp only at hW
          go_simp
        simp only [Act.put, List.setIfInBounds_toArray, List.set_cons_succ, List.set_cons_zero]
        refine wpAnyH_takeAt (i := 6) (v := .pointer (some ⟨pb, pq + j * 2, none⟩)) 135 rfl rfl (by kernel_rfl) (by kernel_rfl) (by kernel_rfl) (fun _ _ _ h => h) (Or.inl ⟨by rfl, ?_⟩) hHeld ?_
        · intro W hW
          try dsimp only at hW
          go_simp
        simp only [Act.put, List.setIfInBounds_toArray, List.set_cons_succ, List.set_cons_zero]
        refine wpAnyH_takeAt (i := 7) (v := .agg #[.slice q.1.kA mk q.1.kc, .slice q.1.vA mv q.1.vc]) 136 rfl rfl (by kernel_rfl) (by kernel_rfl) (by kernel_rfl) (fun _ _ _ h => h) (Or.inl ⟨by rfl, ?_⟩) hHeld ?_
        · intro W hW
          try dsimp only at hW
          go_simp
        simp only [Act.put, List.setIfInBounds_toArray, List.set_cons_succ, List.set_cons_zero]
        refine wpAnyH_ready (rs := [8]) (by kernel_rfl) (by simp) ?_
        refine AllReadyH.cons rfl (fun K hK => ?_) AllReadyH.nil
        go_simp
        refine (HSA.out _ B6D.out).mono ?_
        rintro e w7 ⟨rfl, b7⟩
        have B7 := Lib.hid (B6D.out.trans (b7.mono B6D.out.size))
        have k7 := HK4.out _ B7.out
        clear b7
        refine hK.out _ _ k7 (fun hHeld2 => ?_)
        clear hK K hHeld
        have hHeld := hHeld2
        clear hHeld2
        try simp only [Act.put, List.setIfInBounds_toArray, List.set_cons_succ, List.set_cons_zero]
        refine wpAnyH_takeAt (i := 9) (v := .bool false) 138 rfl rfl (by kernel_rfl) (by kernel_rfl) (by kernel_rfl) (fun _ _ _ h => h) (Or.inl ⟨by rfl, ?_⟩) hHeld ?_
        · intro W hW
          try dsimp only at hW
          go_simp
        simp only [Act.put, List.setIfInBounds_toArray, List.set_cons_succ, List.set_cons_zero]
        refine wpAnyH_takeAt (i := 10) (v := .bool false) 139 rfl rfl (by kernel_rfl) (by kernel_rfl) (by kernel_rfl) (fun _ _ _ h => h) (Or.inl ⟨by rfl, ?_⟩) hHeld ?_
        · intro W hW
          try dsimp only at hW
          go_simp
        simp only [Act.put, List.setIfInBounds_toArray, List.set_cons_succ, List.set_cons_zero]
        refine wpAnyH_takeAt (i := 11) (v := .bool false) 140 rfl rfl (by kernel_rfl) (by kernel_rfl) (by kernel_rfl) (fun _ _ _ h => h) (Or.inl ⟨by rfl, ?_⟩) hHeld ?_
        · intro W hW
          try dsimp only at hW
          go_simp
        simp only [Act.put, List.setIfInBounds_toArray, List.set_cons_succ, List.set_cons_zero]
        refine wpAnyH_takeAt (i := 12) (v := .int .i64 (j : Int)) 141 rfl rfl (by kernel_rfl) (by kernel_rfl) (by kernel_rfl) (fun _ _ _ h => h) (Or.inl ⟨by rfl, ?_⟩) hHeld ?_
        · intro W hW
          try dsimp only at hW
          go_simp
        simp only [Act.put, List.setIfInBounds_toArray, List.set_cons_succ, List.set_cons_zero]
        refine wpAnyH_takeAt (i := 13) (v := .slice (some ⟨pa, oa, none⟩) n c) 142 rfl rfl (by kernel_rfl) (by kernel_rfl) (by kernel_rfl) (fun _ _ _ h => h) (Or.inl ⟨by rfl, ?_⟩) hHeld ?_
        · intro W hW
          try dsimp only at hW
          go_simp
        simp only [Act.put, List.setIfInBounds_toArray, List.set_cons_succ, List.set_cons_zero]
        refine wpAnyH_takeAt (i := 14) (v := .int .i64 (n : Int)) 143 rfl rfl (by kernel_rfl) (by kernel_rfl) (by kernel_rfl) (fun _ _ _ h => h) (Or.inl ⟨by rfl, ?_⟩) hHeld ?_
        · intro W hW
          try dsimp only at hW
          go_simp
        simp only [Act.put, List.setIfInBounds_toArray, List.set_cons_succ, List.set_cons_zero]
        refine wpAnyH_takeAt (i := 15) (v := .int .i64 (n1 : Int)) 144 rfl rfl (by kernel_rfl) (by kernel_rfl) (by kernel_rfl) (fun _ _ _ h => h) (Or.inl ⟨by rfl, ?_⟩) hHeld ?_
        · intro W hW
          try dsimp only at hW
          go_simp
        simp only [Act.put, List.setIfInBounds_toArray, List.set_cons_succ, List.set_cons_zero]
        refine wpAnyH_takeAt (i := 16) (v := .bool false) 145 rfl rfl (by kernel_rfl) (by kernel_rfl) (by kernel_rfl) (fun _ _ _ h => h) (Or.inl ⟨by rfl, ?_⟩) hHeld ?_
        · intro W hW
          try dsimp only at hW
          go_simp
        simp only [Act.put, List.setIfInBounds_toArray, List.set_cons_succ, List.set_cons_zero]
        refine wpAnyH_takeAt (i := 17) (v := .bool false) 146 rfl rfl (by kernel_rfl) (by kernel_rfl) (by kernel_rfl) (fun _ _ _ h => h) (Or.inl ⟨by rfl, ?_⟩) hHeld ?_
        · intro W hW
          try dsimp only at hW
          go_simp
        simp only [Act.put, List.setIfInBounds_toArray, List.set_cons_succ, List.set_cons_zero]
        refine wpAnyH_takeAt (i := 18) (v := undef) 147 rfl rfl (by kernel_rfl) (by kernel_rfl) (by kernel_rfl) (fun _ _ _ h => h) (Or.inr ⟨by rfl, rfl⟩) hHeld ?_
        simp only [Act.put, List.setIfInBounds_toArray, List.set_cons_succ, List.set_cons_zero]
        refine wpAnyH_takeAt (i := 19) (v := undef) 148 rfl rfl (by kernel_rfl) (by kernel_rfl) (by kernel_rfl) (fun _ _ _ h => h) (Or.inr ⟨by rfl, rfl⟩) hHeld ?_
        simp only [Act.put, List.setIfInBounds_toArray, List.set_cons_succ, List.set_cons_zero]
        refine wpAnyH_takeAt (i := 20) (v := undef) 149 rfl rfl (by kernel_rfl) (by kernel_rfl) (by kernel_rfl) (fun _ _ _ h => h) (Or.inr ⟨by rfl, rfl⟩) hHeld ?_
        simp only [Act.put, List.setIfInBounds_toArray, List.set_cons_succ, List.set_cons_zero]
        refine wpAnyH_takeAt (i := 21) (v := undef) 150 rfl rfl (by kernel_rfl) (by kernel_rfl) (by kernel_rfl) (fun _ _ _ h => h) (Or.inr ⟨by rfl, rfl⟩) hHeld ?_
        simp only [Act.put, List.setIfInBounds_toArray, List.set_cons_succ, List.set_cons_zero]
        refine wpAnyH_takeAt (i := 22) (v := .bool false) 151 rfl rfl (by kernel_rfl) (by kernel_rfl) (by kernel_rfl) (fun _ _ _ h => h) (Or.inl ⟨by rfl, ?_⟩) hHeld ?_
        · intro W hW
          try dsimp only at hW
          go_simp
        simp only [Act.put, List.setIfInBounds_toArray, List.set_cons_succ, List.set_cons_zero]
        refine wpAnyH_takeAt (i := 23) (v := .bool false) 152 rfl rfl (by kernel_rfl) (by kernel_rfl) (by kernel_rfl) (fun _ _ _ h => h) (Or.inl ⟨by rfl, ?_⟩) hHeld ?_
        · intro W hW
          try dsimp only at hW
          go_simp
        simp only [Act.put, List.setIfInBounds_toArray, List.set_cons_succ, List.set_cons_zero]
        refine wpAnyH_done (by kernel_rfl) ?_ _
        refine NoPanic.normal ?_
        refine gen_post (fun W : World => Below w6.heap.size w6 W) B7.out ?_
        intro wq hq
        have HGQ := Lib.hid (HGA6.out.step hq)
        have HEQ := Lib.hid (HE6.out.below hq)
        have HBQ := Lib.hid (HWB6.out.trans (hq.mono HWB6.out.size))
        obtain ⟨l1, l2, _, _⟩ := HK4.out wq hq
        have HAL := Lib.hid ((Below.refl wq.heap.size wq).alloc (Nat.le_refl _) (.cells #[.slice r.kA nk r.kc, .slice r.vA nv r.vc] 36))
        have HOWQ := Lib.hid (show World.ownsRow (wq.alloc (.cells #[.slice r.kA nk r.kc, .slice r.vA nv r.vc] 36)) w4.heap.size 36 2 (.slice A j ac) j (eCs R') from by
          have := own_moved HGQ.out.own fun i hi => HAL.out.block i (HGQ.out.own.lt i hi).2
          rwa [HRL.out] at this)
        have HNWQ := Lib.hid (show ∀ i u, (eC r E1)[i]? = some u → (wq.alloc (.cells #[.slice r.kA nk r.kc, .slice r.vA nv r.vc] 36)).cell? ((⟨wq.heap.size, 0, none⟩ : Addr).add i) = some u from by
          rw [HEN.out]
          exact World.news_of_block (heap_alloc_new wq (.cells #[.slice r.kA nk r.kc, .slice r.vA nv r.vc] 36)))
        have HTWO := Lib.hid (show ∀ u ∈ eC r E1, u.oneCell' = true from by
          rw [HEN.out]
          exact two_one _ _)
        have HSML := Lib.hid (show j + 1 ≤ maxLen ∧ (j + 1) * 48 ≤ 140737488355328 from by unfold maxLen; have := HN8.out; have := HLT.out; omega)
        have HLOQ := Lib.hid (Nat.le_trans HBQ.out.size HAL.out.size)
        have HMQ := Lib.hid (show ∀ i, (Value.slice A j ac).ownBlock = some i → i < wr.heap.size from fun i hi => (HGA.out.own.lt i hi).2)
        clear hq k0 a1 a2
        go_wp2_with (first
          | (refine Great.wpList_buildSliceTo rfl 31 36 1 #[(0, .tmp 154)] rfl _ rfl (some 155) rfl Tryd.underlying31 #[.slice r.kA nk r.kc, .slice r.vA nv r.vc] (entOne _ _ _ _ _ _) ?_)
          | (at_builtin; refine wpList_append_lies _ rfl (.tmp 153) (.tmp 155) 31 rfl w4.heap.size 36 j0 _ 2 48 Tryd.underlying31 HJ.out HY0.out HY1.out HY2.out rfl (by omega) (.slice A j ac) j (eCs R') rfl HOWQ.out ⟨wq.heap.size, 0, none⟩ 1 1 (eC r E1) rfl rfl HNWQ.out HTWO.out (by omega) HSML.out.1 HSML.out.2 HLOQ.out _ rfl ?_; intro g c4 wz hown hgrow hat hlt4))
        have hmore := HGQ.out.step HAL.out
        rw [← HRL.out] at hown
        have HGN := Lib.hid (hmore.more (HEQ.out.below HAL.out) HF6.out HMQ.out hown hgrow hat)
        rw [HRL.out] at HGN
        have HBN := Lib.hid ((HBQ.out.alloc HBQ.out.size (.cells #[.slice r.kA nk r.kc, .slice r.vA nv r.vc] 36)).grown hgrow HLOQ.out fun i hi => (HOWQ.out.lt i hi).1)
        clear hown hgrow hat hlt4 hmore
        go_wp2_with (fail)
        try rw [x3]
        exact ⟨⟨j + 1, some ⟨g, 0, none⟩, c4, R' ++ [(r, E1)], rfl, rfl, HLT.out, by rw [List.length_append, HRL.out]; rfl, HGN.out, HRE.out r, HBN.out⟩, vcLess j n HLT.out⟩
    · have hke : n = j := by omega
      subst hke
      have x0 : ¬ (n : Int) < (n : Int) := by omega
      have x1 : decide ((n : Int) < (n : Int)) = false := decide_eq_false x0
      obtain ⟨k, hk, hkk⟩ := cut64 turn n HN8.out.1
      have z1 : ¬ (n : Int) = 0 := by have := HN8.out; omega
      have z2 : ((n : Int) == 0) = false := beq_eq_false_iff_ne.2 z1
      have u1 := u64_in n (by have := HN8.out; omega)
      have u2 := IntWalk.wrap64_in (k : Int) (by have := HN8.out; omega)
      have HKN := Lib.hid hk
      clear hlt HGA HPR2 HRL
      by_cases hk0 : k = 0
      · have t5 : ((k : Int) == 0) = true := by rw [hk0]; rfl
        have t6 : ((n : Int) == (n : Int)) = true := beq_self_eq_true _
        clear hk hk0
        go_wp2_with (fail)
        exact bodyPost_ret (results_tmp rfl _ _ _) rfl ⟨rfl, HB5.out⟩
      · have t5 : ((k : Int) == 0) = false := beq_eq_false_iff_ne.2 (by omega)
        have hc1 := cut_to n c k (k : Int) T rfl (by have := HN8.out; omega)
        obtain ⟨V, m, d, hc2, hkm, hKV⟩ : ∃ V m d, (∀ W, (Instr.slice 24 (.slice T n c) (some (.int .i64 (k : Int))) none none).run Tryd.prog W = .ok (.slice V m d) W) ∧ k + m = n ∧ (∀ W, Below w.heap.size w W → KIn .i64 W V (ts.drop k)) :=
          ⟨fromA T c k, n - k, c - k, cut_from n c k (k : Int) T rfl (by omega), by omega, fun W hW => (HKT.out W hW).from (by rw [HTL.out]; exact HN8.out.2.2) k⟩
        have HKM := Lib.hid hkm
        have HKV := Lib.hid hKV
        have hkl : k < ts.length := by rw [HTL.out]; exact hk
        have HT1 := Lib.hid (take_ok HER.out (show 0 < k by omega) hkl)
        have HT2 := Lib.hid (drop_ok (s := s) HER.out hkl)
        have HT3 := Lib.hid (runS_parts x s hkl)
        clear hk hk0 hkm hKV hkl
        go_wp2_with (fail)
        refine (HRUN.out wr b none 0 0 [] T k c (ts.take k) HB5.out (Br.stays HR4.out HWB.out) rfl (by omega) (noEs wr) (by rw [List.length_take, HTL.out]; have := HKN.out; omega) (by have := HKN.out; have := HN8.out; omega) ((HKT.out _ HB5.out).take k) HT1.out).mono ?_
        rintro e v1 ⟨EA1, ec1, SA1, sc1, R1, rfl, hp1, hr1, he1, _, _, b1⟩
        have HB6 := Lib.hid (HB5.out.trans (b1.mono HB5.out.size))
        have HW6 := Lib.hid (HWB.out.trans (b1.mono HWB.out.size))
        have HP1 := Lib.hid (show past R1 = runE x s [] (ts.take k) from hp1)
        have HR1 := Lib.hid hr1
        have HE1 := Lib.hid he1
        clear b1 hp1 hr1 he1
        go_wp2_with (fail)
        refine (HRUN.out v1 b EA1 k ec1 R1 V m d (ts.drop k) HB6.out (Br.stays HR4.out HW6.out) HR1.out (by have := HKN.out; have := HN8.out; omega) HE1.out (by rw [List.length_drop, HTL.out]; have := HKM.out; omega) (by have := HKM.out; have := HN8.out; omega) (HKV.out _ HB6.out) (by rw [HP1.out]; exact HT2.out)).mono ?_
        rintro e v2 ⟨EA2, ec2, SA2, sc2, R2, rfl, hp2, hr2, he2, hs2, hl2, b2⟩
        have HB7 := Lib.hid (HB6.out.trans (b2.mono HB6.out.size))
        have HW7 := Lib.hid (HW6.out.trans (b2.mono HW6.out.size))
        rw [HP1.out] at hp2 hs2
        rw [HT3.out] at hs2
        have HP2 := Lib.hid hp2
        have HR2 := Lib.hid hr2
        have HE2 := Lib.hid he2
        have HIN := Lib.hid (show Calls Tryd.prog 11 #[.slice SA2 (vN x) sc2, .slice SA (vN x) sc] v2 fun e w' => e = .returned (.bool true) ∧ ∃ k, w' = v2.drewN k from by
          exact ints_self v2 SA2 (vN x) sc2 SA (vN x) sc (runS x s [] ts) HSL.out HSL.out HVM.out hs2 (HSA0.out.below HW7.out (Nat.le_refl _)))
        clear b2 hp2 hr2 he2 hs2 hl2 hc1 hc2 z1 z2 u1 u2 hkk
        have a3 := (sum_parts HKM.out HNM.out).1
        have a4 := (sum_parts HKM.out HNM.out).2
        have t7 : ((n : Int) != (n : Int)) = false := bne_self_eq_false _
        go_wp2_with (fail)
        refine HIN.out.mono ?_
        rintro e v3 ⟨rfl, q3, rfl⟩
        go_wp2_with (fail)
        clear a3 a4 t7
        go_loopw [28] (fun i u => ∃ p : Nat, i = .int .i64 (p : Int) ∧ p ≤ m ∧ Below v2.heap.size v2 u) (fun i _ => match i with | .int _ z => m - z.toNat | _ => 0)
        case atStart => exact ⟨0, rfl, Nat.zero_le _, below_drewN (Below.refl _ _) q3⟩
        case round =>
          obtain ⟨p, rfl, hp, hub⟩ := hrel
          have HU := Lib.hid hub
          have HB9 := Lib.hid (HB7.out.trans (hub.mono HB7.out.size))
          have HW9 := Lib.hid (HW7.out.trans (hub.mono HW7.out.size))
          clear hub
          have x3 : 0 ≤ (p : Int) := by omega
          by_cases hlt : p < m
          · have x4 : (p : Int) < (m : Int) := by omega
            have x5 : decide ((p : Int) < (m : Int)) = true := decide_eq_true x4
            have HLT := Lib.hid hlt
            obtain ⟨i, hi⟩ : ∃ i, k + p = i := ⟨_, rfl⟩
            have hin : i < n := by have := HKM.out; omega
            have HWR := Lib.hid (show ((-9223372036854775808 : Int) ≤ (k : Int) + (p : Int) ∧ (k : Int) + (p : Int) ≤ 9223372036854775807) ∧ (k : Int) + (p : Int) = (i : Int) ∧ ((-9223372036854775808 : Int) ≤ (p : Int) + 1 ∧ (p : Int) + 1 ≤ 9223372036854775807) from by have := HN8.out; have := HKM.out; omega)
            have x6 : 0 ≤ (i : Int) := by omega
            have x7 : (i : Int) < (n : Int) := by omega
            have hg1 := getD_some (Q := R2) (j := p) (by rw [HR2.out]; exact hlt)
            have hg2 := getD_some (Q := R) (j := i) (by rw [HRN.out]; exact hin)
            have hE1 := HE2.out.below HU.out
            have hE2 := HEA.out.below HW9.out
            obtain ⟨pc, po, hEe1, g1, g2⟩ := hE1.row.cell hg1
            subst hEe1
            obtain ⟨pb, pq, hEe2, g3, g4⟩ := hE2.row.cell hg2
            subst hEe2
            obtain ⟨E, hE⟩ : ∃ E, (runE x s (runE x s [] (ts.take k)) (ts.drop k))[p]? = some E := ⟨_, List.getElem?_eq_getElem (by rw [runE_length, List.length_drop, HTL.out]; have := HKM.out; omega)⟩
            have hq1 : (R2.getD p noQ).2 = E := past_getD HP2.out hE
            have hq2 : (R.getD i noQ).2 = E := past_getD HPR.out (by
              have hml : (runE x s [] (ts.take k)).length = k := by rw [runE_length, List.length_take, HTL.out]; have := HKN.out; omega
              rw [runE_parts x s ts k, List.getElem?_append_right (by rw [hml]; omega), hml, show i - k = p by omega]
              exact hE)
            have HEF := Lib.hid (ent_fit HKO.out.good.is (runE_good x s _ _ E (List.mem_of_getElem? hE)))
            have HQ1 := Lib.hid (hE1.all _ (List.mem_of_getElem? hg1))
            have HQ2 := Lib.hid (hE2.all _ (List.mem_of_getElem? hg2))
            generalize R2.getD p noQ = q1 at g1 g2 hq1 HQ1
            generalize R.getD i noQ = q2 at g3 g4 hq2 HQ2
            have HSM := Lib.hid (fun W (hW : Below wr.heap.size wr W) => show Calls Tryd.prog 10 #[.agg #[.slice q1.1.kA q1.2.ks.length q1.1.kc, .slice q1.1.vA q1.2.vs.length q1.1.vc], .agg #[.slice q2.1.kA q2.2.ks.length q2.1.kc, .slice q2.1.vA q2.2.vs.length q2.1.vc]] W fun e w' => e = .returned (.bool true) ∧ Below W.heap.size W w' from by
              have := step_same W q1.1 q1.2 q2.1 q2.2 (HQ1.out.below hW) (HQ2.out.below hW) (by rw [hq1]; exact HEF.out)
              rw [hq1, hq2, sameE_self] at this
              rw [hq1, hq2]
              exact this)
            have HKX := Lib.hid (fun W (hW : Below wr.heap.size wr W) => show W.cell? ⟨pc, po + p * 2, none⟩ = some (.slice q1.1.kA q1.2.ks.length q1.1.kc) ∧ W.cell? ⟨pc, po + p * 2 + 1, none⟩ = some (.slice q1.1.vA q1.2.vs.length q1.1.vc) ∧ W.cell? ⟨pb, pq + i * 2, none⟩ = some (.slice q2.1.kA q2.2.ks.length q2.1.kc) ∧ W.cell? ⟨pb, pq + i * 2 + 1, none⟩ = some (.slice q2.1.vA q2.2.vs.length q2.1.vc) from ⟨hb0c4 hW g1, hb0c4 hW g2, hb0c4 hW g3, hb0c4 hW g4⟩)
            clear g1 g2 g3 g4 hg1 hg2 hE1 hE2 hE hq1 hq2 hi hin hlt HQ1 HQ2 HEF
            generalize q1.2.ks.length = ma at HSM HKX
            generalize q1.2.vs.length = mb at HSM HKX
            generalize q2.2.ks.length = mc at HSM HKX
            generalize q2.2.vs.length = md at HSM HKX
            have a5 : wrap64 ((k : Int) + (p : Int)) = (i : Int) := (IntWalk.wrap64_in _ (HWR.out).1).trans HWR.out.2.1
            have a6 : IntKind.i64.wrap ((k : Int) + (p : Int)) = (i : Int) := (IntWalk.i64_in _ HWR.out.1).trans HWR.out.2.1
            have a7 := IntWalk.wrap64_in ((p : Int) + 1) HWR.out.2.2
            have B0 := Lib.hid (below_drewN (Below.refl wr.heap.size wr) 1)
            have k0 := HKX.out _ B0.out
            go_wp2_with (fail)
            refine wp_region_noPanic ?_
            refine wp_region_held_drew (S := (fun W : World => W.cell? ⟨pc, po + p * 2, none⟩ = some (.slice q1.1.kA ma q1.1.kc) ∧ W.cell? ⟨pc, po + p * 2 + 1, none⟩ = some (.slice q1.1.vA mb q1.1.vc) ∧ W.cell? ⟨pb, pq + i * 2, none⟩ = some (.slice q2.1.kA mc q2.1.kc) ∧ W.cell? ⟨pb, pq + i * 2 + 1, none⟩ = some (.slice q2.1.vA md q2.1.vc))) (by kernel_rfl) k0 (fun hHeld => ?_)
            refine wpAnyH_takeAt (i := 0) (v := .slice (some ⟨pc, po, none⟩) m ec2) 218 rfl rfl (by kernel_rfl) (by kernel_rfl) (by kernel_rfl) (fun _ _ _ h => h) (Or.inl ⟨by rfl, ?_⟩) hHeld ?_
            · intro W hW
              try dsimp only at hW
              go_simp
            simp only [Act.put, List.setIfInBounds_toArray, List.set_cons_succ, List.set_cons_zero]
            refine wpAnyH_takeAt (i := 1) (v := .int .i64 (p : Int)) 219 rfl rfl (by kernel_rfl) (by kernel_rfl) (by kernel_rfl) (fun _ _ _ h => h) (Or.inl ⟨by rfl, ?_⟩) hHeld ?_
            · intro W hW
              try dsimp only at hW
              go_simp
            simp only [Act.put, List.setIfInBounds_toArray, List.set_cons_succ, List.set_cons_zero]
            refine wpAnyH_takeAt (i := 2) (v := .pointer (some ⟨pc, po + p * 2, none⟩)) 220 rfl rfl (by kernel_rfl) (by kernel_rfl) (by kernel_rfl) (fun _ _ _ h => h) (Or.inl ⟨by rfl, ?_⟩) hHeld ?_
            · intro W hW
              try dsimp only at hW
              go_simp
            simp only [Act.put, List.setIfInBounds_toArray, List.set_cons_succ, List.set_cons_zero]
            refine wpAnyH_takeAt (i := 3) (v := .agg #[.slice q1.1.kA ma q1.1.kc, .slice q1.1.vA mb q1.1.vc]) 221 rfl rfl (by kernel_rfl) (by kernel_rfl) (by kernel_rfl) (fun _ _ _ h => h) (Or.inl ⟨by rfl, ?_⟩) hHeld ?_
            · intro W hW
              try dsimp only at hW
              go_simp
            simp only [Act.put, List.setIfInBounds_toArray, List.set_cons_succ, List.set_cons_zero]
            refine wpAnyH_takeAt (i := 4) (v := .slice (some ⟨pb, pq, none⟩) n ec) 222 rfl rfl (by kernel_rfl) (by kernel_rfl) (by kernel_rfl) (fun _ _ _ h => h) (Or.inl ⟨by rfl, ?_⟩) hHeld ?_
            · intro W hW
              try dsimp only at hW
              go_simp
            simp only [Act.put, List.setIfInBounds_toArray, List.set_cons_succ, List.set_cons_zero]
            refine wpAnyH_takeAt (i := 5) (v := .int .i64 (k : Int)) 223 rfl rfl (by kernel_rfl) (by kernel_rfl) (by kernel_rfl) (fun _ _ _ h => h) (Or.inl ⟨by rfl, ?_⟩) hHeld ?_
            · intro W hW
              try dsimp only at hW
              go_simp
            simp only [Act.put, List.setIfInBounds_toArray, List.set_cons_succ, List.set_cons_zero]
            refine wpAnyH_takeAt (i := 6) (v := .int .i64 (p : Int)) 224 rfl rfl (by kernel_rfl) (by kernel_rfl) (by kernel_rfl) (fun _ _ _ h => h) (Or.inl ⟨by rfl, ?_⟩) hHeld ?_
            · intro W hW
              try dsimp only at hW
              go_simp
            simp only [Act.put, List.setIfInBounds_toArray, List.set_cons_succ, List.set_cons_zero]
            refine wpAnyH_takeAt (i := 7) (v := .int .i64 (i : Int)) 225 rfl rfl (by kernel_rfl) (by kernel_rfl) (by kernel_rfl) (fun _ _ _ h => h) (Or.inl ⟨by rfl, ?_⟩) hHeld ?_
            · intro W hW
              try dsimp only at hW
              go_simp
            simp only [Act.put, List.setIfInBounds_toArray, List.set_cons_succ, List.set_cons_zero]
            refine wpAnyH_takeAt (i := 8) (v := .pointer (some ⟨pb, pq + i * 2, none⟩)) 226 rfl rfl (by kernel_rfl) (by kernel_rfl) (by kernel_rfl) (fun _ _ _ h => h) (Or.inl ⟨by rfl, ?_⟩) hHeld ?_
            · intro W hW
              try dsimp only at hW
              go_simp
            simp only [Act.put, List.setIfInBounds_toArray, List.set_cons_succ, List.set_cons_zero]
            refine wpAnyH_takeAt (i := 9) (v := .agg #[.slice q2.1.kA mc q2.1.kc, .slice q2.1.vA md q2.1.vc]) 227 rfl rfl (by kernel_rfl) (by kernel_rfl) (by kernel_rfl) (fun _ _ _ h => h) (Or.inl ⟨by rfl, ?_⟩) hHeld ?_
            · intro W hW
              try dsimp only at hW
              go_simp
            simp only [Act.put, List.setIfInBounds_toArray, List.set_cons_succ, List.set_cons_zero]
            refine wpAnyH_ready (rs := [10]) (by kernel_rfl) (by simp) ?_
            refine AllReadyH.cons rfl (fun K hK => ?_) AllReadyH.nil
            go_simp
            refine (HSM.out _ B0.out).mono ?_
            rintro e w7 ⟨rfl, b7⟩
            have B7 := Lib.hid (B0.out.trans (b7.mono B0.out.size))
            have k7 := HKX.out _ B7.out
            clear b7
            refine hK.out _ _ k7 (fun hHeld2 => ?_)
            clear hK K hHeld
            have hHeld := hHeld2
            clear hHeld2
            try simp only [Act.put, List.setIfInBounds_toArray, List.set_cons_succ, List.set_cons_zero]
            refine wpAnyH_takeAt (i := 11) (v := .bool false) 229 rfl rfl (by kernel_rfl) (by kernel_rfl) (by kernel_rfl) (fun _ _ _ h => h) (Or.inl ⟨by rfl, ?_⟩) hHeld ?_
            · intro W hW
              try dsimp only at hW
              go_simp
            simp only [Act.put, List.setIfInBounds_toArray, List.set_cons_succ, List.set_cons_zero]
            refine wpAnyH_done (by kernel_rfl) ?_ _
            refine NoPanic.normal ?_
            refine gen_post (fun W : World => Below wr.heap.size wr W) B7.out ?_
            intro wz hz
            go_wp2_with (fail)
            try rw [a7]
            exact ⟨⟨p + 1, rfl, HLT.out, HU.out.trans (hz.mono HU.out.size)⟩, vcLess p m HLT.out⟩
          · have x4 : ¬ (p : Int) < (m : Int) := by omega
            have x5 : decide ((p : Int) < (m : Int)) = false := decide_eq_false x4
            clear hlt
            go_wp2_with (fail)
            refine (step_run_nil _ _ _ _ _ _ _).mono ?_
            rintro e v5 ⟨rfl, b5⟩
            have HA := Lib.hid ((Below.refl wr.heap.size wr).alloc (Nat.le_refl _) (.cells #[.int .i64 1] 3))
            have HA2 := Lib.hid (HA.out.trans (b5.mono HA.out.size))
            have HB10 := Lib.hid (HB9.out.trans (HA2.out.mono HB9.out.size))
            have HW10 := Lib.hid (HW9.out.trans (HA2.out.mono HW9.out.size))
            clear b5
            go_wp2_with (fail)
            refine (HNR.out v5 b (Br.stays HR4.out HW10.out)).mono ?_
            rintro e v6 ⟨rfl, b6⟩
            have HB11 := Lib.hid (HB10.out.trans (b6.mono HB10.out.size))
            clear b6
            go_wp2_with (fail)
            exact bodyPost_ret (results_tmp rfl _ _ _) rfl ⟨rfl, HB11.out⟩
end
end stepRuns
end Go.Proofs.YtijmjlognekcjaaDoor
