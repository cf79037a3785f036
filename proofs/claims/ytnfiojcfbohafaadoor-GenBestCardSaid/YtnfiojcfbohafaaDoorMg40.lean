/-
  GenBest: what is said greedily takes the best token each time. The walk. Condition: the tables lie where they are looked up.
-/
import Derived.Test.YtnfiojcfbohafaaDoorMg34
import Derived.Test.YtnfiojcfbohafaaDoorMg35
import Derived.Test.YtnfiojcfbohafaaDoorMg11
import Derived.Test.YtnfiojcfbohafaaDoorMg15
import Derived.Test.YtnfiojcfbohafaaDoorMg12
set_option maxRecDepth 100000
namespace Go.Proofs.YtnfiojcfbohafaaDoor
open Go.ChangeShapes Go.WideShapes Go.ChangeAt Go.RowKit Cf Vc Br Nr Sf Ac Sp Gn

namespace genBest
section
variable (w : World) (x : Cfg) (s : ByteArray) (T : Option Addr) (n c : Nat) (ts : List Int) (most : Int) (hp : POn w) (hg : GOn w) (hts : ts.length = n) (hK : KIn .i64 w T ts)

set_option maxRecDepth 100000 in
set_option maxHeartbeats 1600000 in
include hp hg in
theorem leaf_big (h0 : 8 < n) : Calls Tryd.prog 6 #[cfV x, .string s, .slice T n c, .int .i64 most] w fun e w' => e = .returned (.bool true) ∧ Below w.heap.size w w' := by
  have HAW := Lib.hid (fun W (hW : Below w.heap.size w W) => awake18 W (hp.below hW (Nat.le_refl _)) (hg.below hW (Nat.le_refl _)))
  have HB0 := Lib.hid ((Below.refl w.heap.size w).alloc (Nat.le_refl _) (cfO 28 x))
  have HH0 := Lib.hid (heap_alloc_new w (cfO 28 x))
  have t0 : 8 < (n : Int) := by omega
  have t1 : decide (8 < (n : Int)) = true := decide_eq_true t0
  clear hp hg h0
  unfold cfV cfA at *
  go_enter Tryd.func6, Tryd.ntmps6
  go_wp2_with (fail)
  refine (HAW.out _ HB0.out).mono ?_
  rintro e w1 ⟨rfl, b1⟩
  have HB1 := Lib.hid (HB0.out.trans (b1.mono HB0.out.size))
  have HH1 := Lib.hid (Cf.stays HH0.out b1)
  clear b1 HAW HB0 HH0
  go_wp2_with (fail)
  exact bodyPost_ret (results_tmp rfl _ _ _) rfl ⟨rfl, HB1.out⟩

set_option maxRecDepth 100000 in
set_option maxHeartbeats 1600000 in
include hp hg in
theorem leaf_great (h0 : n ≤ 8) (hs : smallG x = false) : Calls Tryd.prog 6 #[cfV x, .string s, .slice T n c, .int .i64 most] w fun e w' => e = .returned (.bool true) ∧ Below w.heap.size w w' := by
  have HAW := Lib.hid (fun W (hW : Below w.heap.size w W) => awake18 W (hp.below hW (Nat.le_refl _)) (hg.below hW (Nat.le_refl _)))
  have HB0 := Lib.hid ((Below.refl w.heap.size w).alloc (Nat.le_refl _) (cfO 28 x))
  have HH0 := Lib.hid (heap_alloc_new w (cfO 28 x))
  have HSM := Lib.hid (fun W => small18 x W)
  rw [hs] at HSM
  have t0 : ¬ 8 < (n : Int) := by omega
  have t1 : decide (8 < (n : Int)) = false := decide_eq_false t0
  clear hp hg h0 hs
  unfold cfV cfA at *
  go_enter Tryd.func6, Tryd.ntmps6
  go_wp2_with (fail)
  refine (HAW.out _ HB0.out).mono ?_
  rintro e w1 ⟨rfl, b1⟩
  have HB1 := Lib.hid (HB0.out.trans (b1.mono HB0.out.size))
  have HH1 := Lib.hid (Cf.stays HH0.out b1)
  clear b1 HAW HB0 HH0
  obtain ⟨e0, e1, e2, e3, e4, e5⟩ := six HH1.out
  go_wp2_with (fail)
  refine (HSM.out _).mono ?_
  rintro e w2 ⟨rfl, b2⟩
  have HB2 := Lib.hid (HB1.out.trans (b2.mono HB1.out.size))
  have HH2 := Lib.hid (Cf.stays HH1.out b2)
  clear b2 e0 e1 e2 e3 e4 e5 HB1 HH1 HSM
  go_wp2_with (fail)
  exact bodyPost_ret (results_tmp rfl _ _ _) rfl ⟨rfl, HB2.out⟩

set_option maxRecDepth 100000 in
set_option maxHeartbeats 1600000 in
include hp hg in
theorem leaf_long (h0 : n ≤ 8) (hs : smallG x = true) (hl : 2048 < s.size) : Calls Tryd.prog 6 #[cfV x, .string s, .slice T n c, .int .i64 most] w fun e w' => e = .returned (.bool true) ∧ Below w.heap.size w w' := by
  have HAW := Lib.hid (fun W (hW : Below w.heap.size w W) => awake18 W (hp.below hW (Nat.le_refl _)) (hg.below hW (Nat.le_refl _)))
  have HB0 := Lib.hid ((Below.refl w.heap.size w).alloc (Nat.le_refl _) (cfO 28 x))
  have HH0 := Lib.hid (heap_alloc_new w (cfO 28 x))
  have HSM := Lib.hid (fun W => small18 x W)
  rw [hs] at HSM
  have t0 : ¬ 8 < (n : Int) := by omega
  have t1 : decide (8 < (n : Int)) = false := decide_eq_false t0
  have t2 : 2048 < (s.size : Int) := by omega
  have t3 : decide (2048 < (s.size : Int)) = true := decide_eq_true t2
  clear hp hg h0 hs hl
  unfold cfV cfA at *
  go_enter Tryd.func6, Tryd.ntmps6
  go_wp2_with (fail)
  refine (HAW.out _ HB0.out).mono ?_
  rintro e w1 ⟨rfl, b1⟩
  have HB1 := Lib.hid (HB0.out.trans (b1.mono HB0.out.size))
  have HH1 := Lib.hid (Cf.stays HH0.out b1)
  clear b1 HAW HB0 HH0
  obtain ⟨e0, e1, e2, e3, e4, e5⟩ := six HH1.out
  go_wp2_with (fail)
  refine (HSM.out _).mono ?_
  rintro e w2 ⟨rfl, b2⟩
  have HB2 := Lib.hid (HB1.out.trans (b2.mono HB1.out.size))
  have HH2 := Lib.hid (Cf.stays HH1.out b2)
  clear b2 e0 e1 e2 e3 e4 e5 HB1 HH1 HSM
  go_wp2_with (fail)
  exact bodyPost_ret (results_tmp rfl _ _ _) rfl ⟨rfl, HB2.out⟩

set_option maxRecDepth 100000 in
set_option maxHeartbeats 1600000 in
include hp hg in
theorem leaf_no (h0 : n ≤ 8) (hs : smallG x = true) (hl : s.size ≤ 2048) (hk : ¬ Ok x s) : Calls Tryd.prog 6 #[cfV x, .string s, .slice T n c, .int .i64 most] w fun e w' => e = .returned (.bool true) ∧ Below w.heap.size w w' := by
  obtain ⟨m, hm, ho⟩ : ∃ m : Int, m ≠ 0 ∧ ∀ W, Calls Tryd.prog 11 #[cfV x, .string s] W fun e w' => e = .returned (.tuple #[.pointer none, .int .i64 m]) ∧ Below W.heap.size W w' := by
    cases hgz : goodZ x with
    | false => exact ⟨1, by decide, fun W => brain_of_arg W x s hgz⟩
    | true => exact ⟨5, by decide, fun W => brain_of_form W x s hgz fun hs => hk ⟨good_iff.1 hgz, hs⟩⟩
  have HO := Lib.hid ho
  have t8 : (m != 0) = true := bne_iff_ne.2 hm
  have HAW := Lib.hid (fun W (hW : Below w.heap.size w W) => awake18 W (hp.below hW (Nat.le_refl _)) (hg.below hW (Nat.le_refl _)))
  have HB0 := Lib.hid ((Below.refl w.heap.size w).alloc (Nat.le_refl _) (cfO 28 x))
  have HH0 := Lib.hid (heap_alloc_new w (cfO 28 x))
  have HSM := Lib.hid (fun W => small18 x W)
  rw [hs] at HSM
  have t0 : ¬ 8 < (n : Int) := by omega
  have t1 : decide (8 < (n : Int)) = false := decide_eq_false t0
  have t2 : ¬ 2048 < (s.size : Int) := by omega
  have t3 : decide (2048 < (s.size : Int)) = false := decide_eq_false t2
  clear hp hg h0 hs hl hk ho hm
  unfold cfV cfA at *
  go_enter Tryd.func6, Tryd.ntmps6
  go_wp2_with (fail)
  refine (HAW.out _ HB0.out).mono ?_
  rintro e w1 ⟨rfl, b1⟩
  have HB1 := Lib.hid (HB0.out.trans (b1.mono HB0.out.size))
  have HH1 := Lib.hid (Cf.stays HH0.out b1)
  clear b1 HAW HB0 HH0
  obtain ⟨e0, e1, e2, e3, e4, e5⟩ := six HH1.out
  go_wp2_with (fail)
  refine (HSM.out _).mono ?_
  rintro e w2 ⟨rfl, b2⟩
  have HB2 := Lib.hid (HB1.out.trans (b2.mono HB1.out.size))
  have HH2 := Lib.hid (Cf.stays HH1.out b2)
  clear b2 e0 e1 e2 e3 e4 e5 HB1 HH1 HSM
  obtain ⟨e0, e1, e2, e3, e4, e5⟩ := six HH2.out
  go_wp2_with (fail)
  refine (HO.out _).mono ?_
  rintro e w3 ⟨rfl, b3⟩
  have HB3 := Lib.hid (HB2.out.trans (b3.mono HB2.out.size))
  clear b3
  go_wp2_with (fail)
  exact bodyPost_ret (results_tmp rfl _ _ _) rfl ⟨rfl, HB3.out⟩

set_option maxRecDepth 100000 in
set_option maxHeartbeats 1600000 in
include hp hg hts hK in
theorem leaf_bad (h0 : n ≤ 8) (hs : smallG x = true) (hl : s.size ≤ 2048) (hk : Ok x s) (he : errG x most ts ≠ 0) : Calls Tryd.prog 6 #[cfV x, .string s, .slice T n c, .int .i64 most] w fun e w' => e = .returned (.bool true) ∧ Below w.heap.size w w' := by
  have HO := Lib.hid (fun W => brain_of W x s hk)
  have HAW := Lib.hid (fun W (hW : Below w.heap.size w W) => awake18 W (hp.below hW (Nat.le_refl _)) (hg.below hW (Nat.le_refl _)))
  have HB0 := Lib.hid ((Below.refl w.heap.size w).alloc (Nat.le_refl _) (cfO 28 x))
  have HH0 := Lib.hid (heap_alloc_new w (cfO 28 x))
  have HSM := Lib.hid (fun W => small18 x W)
  rw [hs] at HSM
  have t0 : ¬ 8 < (n : Int) := by omega
  have t1 : decide (8 < (n : Int)) = false := decide_eq_false t0
  have t2 : ¬ 2048 < (s.size : Int) := by omega
  have t3 : decide (2048 < (s.size : Int)) = false := decide_eq_false t2
  have HGN := Lib.hid (fun W b (hW : Below w.heap.size w W) (hb : W.heap[b]? = some (brO x s)) => gen_greedy_not W b x s hb T n c ts hts (by omega) (hK.below hW (Nat.le_refl _)) most he)
  generalize errG x most ts = r at HGN he
  have t9 : (r != 0) = true := bne_iff_ne.2 he
  clear hp hg hts hK h0 hs hl hk he
  unfold cfV cfA at *
  go_enter Tryd.func6, Tryd.ntmps6
  go_wp2_with (fail)
  refine (HAW.out _ HB0.out).mono ?_
  rintro e w1 ⟨rfl, b1⟩
  have HB1 := Lib.hid (HB0.out.trans (b1.mono HB0.out.size))
  have HH1 := Lib.hid (Cf.stays HH0.out b1)
  clear b1 HAW HB0 HH0
  obtain ⟨e0, e1, e2, e3, e4, e5⟩ := six HH1.out
  go_wp2_with (fail)
  refine (HSM.out _).mono ?_
  rintro e w2 ⟨rfl, b2⟩
  have HB2 := Lib.hid (HB1.out.trans (b2.mono HB1.out.size))
  have HH2 := Lib.hid (Cf.stays HH1.out b2)
  clear b2 e0 e1 e2 e3 e4 e5 HB1 HH1 HSM
  obtain ⟨e0, e1, e2, e3, e4, e5⟩ := six HH2.out
  go_wp2_with (fail)
  refine (HO.out _).mono ?_
  rintro e w3 ⟨b, rfl, hb, hh, b3⟩
  have HB3 := Lib.hid (HB2.out.trans (b3.mono HB2.out.size))
  have HH3 := Lib.hid (Cf.stays HH2.out b3)
  have HR3 := Lib.hid hh
  clear b3 hb hh e0 e1 e2 e3 e4 e5 HB2 HH2 HO
  go_wp2_with (fail)
  refine (HGN.out _ _ HB3.out HR3.out).mono ?_
  rintro e w4 ⟨rfl, b4⟩
  have HB4 := Lib.hid (HB3.out.trans (b4.mono HB3.out.size))
  clear b4
  go_wp2_with (fail)
  exact bodyPost_ret (results_tmp rfl _ _ _) rfl ⟨rfl, HB4.out⟩

set_option maxRecDepth 100000 in
set_option maxHeartbeats 12800000 in
include hp hg hts hK in
theorem leaf_ok (h0 : n ≤ 8) (hs : smallG x = true) (hl : s.size ≤ 2048) (hk : Ok x s) (he : errG x most ts = 0) : Calls Tryd.prog 6 #[cfV x, .string s, .slice T n c, .int .i64 most] w fun e w' => e = .returned (.bool true) ∧ Below w.heap.size w w' := by
  have HO := Lib.hid (fun W => brain_of W x s hk)
  have HAW := Lib.hid (fun W (hW : Below w.heap.size w W) => awake18 W (hp.below hW (Nat.le_refl _)) (hg.below hW (Nat.le_refl _)))
  have HB0 := Lib.hid ((Below.refl w.heap.size w).alloc (Nat.le_refl _) (cfO 28 x))
  have HH0 := Lib.hid (heap_alloc_new w (cfO 28 x))
  have HSM := Lib.hid (fun W => small18 x W)
  rw [hs] at HSM
  have t0 : ¬ 8 < (n : Int) := by omega
  have t1 : decide (8 < (n : Int)) = false := decide_eq_false t0
  have t2 : ¬ 2048 < (s.size : Int) := by omega
  have t3 : decide (2048 < (s.size : Int)) = false := decide_eq_false t2
  obtain ⟨M, rfl, hM1, hM2⟩ := errG_most he
  have HM := Lib.hid (And.intro hM1 hM2)
  have HGN := Lib.hid (fun W b (hW : Below w.heap.size w W) (hb : W.heap[b]? = some (brO x s)) (j : Nat) (h1 : 1 ≤ j) (h2 : j ≤ M) => gen_greedy W b x s hb hk T n c ts hts (by omega) (hK.below hW (Nat.le_refl _)) j (errG_less he h1 h2) (hp.below hW (Nat.le_refl _)) (hg.below hW (Nat.le_refl _)))
  have her : errR x (past []) ts = 0 := by
    obtain ⟨a1, a2, a3, a4, a5⟩ := errG_ok.1 he
    exact errR_ok.2 ⟨List.length_pos_iff.1 a1, rfl, a4, by rw [past_length]; show ((0 : Nat) : Int) + _ ≤ _; omega⟩
  have HRUN := Lib.hid (fun W b (hW : Below w.heap.size w W) (hb : W.heap[b]? = some (brO x s)) => step_run W none 0 0 [] T n c ts b x s hb hk rfl (by omega) (noEs W) hts (by omega) (hK.below hW (Nat.le_refl _)) her (hp.below hW (Nat.le_refl _)) (hg.below hW (Nat.le_refl _)))
  have HV := Lib.hid (show vN x ≤ 1000000 by have h1 := (dims hk.good.is).2.2.2; have h2 := hk.good.is.v32; omega)
  have HHD := Lib.hid (show (bestL (runS x s [] ts) = 0 ∧ genT x s takeB M 0 ts = []) ∨ (bestL (runS x s [] ts) ≠ 0 ∧ ∃ L, genT x s takeB M 0 ts = bestL (runS x s [] ts) :: L) from by
    obtain ⟨M', rfl⟩ : ∃ M', M = M' + 1 := ⟨M - 1, by omega⟩
    exact genT_head x s takeB M' 0 ts)
  have HTK := Lib.hid (fun j (h : j ≤ M) => genT_take x s takeB j M 0 ts h)
  have HGM := Lib.hid (genT_length x s takeB M 0 ts)
  unfold SaidSays at HGN
  unfold RunSays at HRUN
  clear her hM1 hM2
  clear hp hg hts hK h0 hs hl hk he
  unfold cfV cfA at *
  go_enter Tryd.func6, Tryd.ntmps6
  go_wp2_with (fail)
  refine (HAW.out _ HB0.out).mono ?_
  rintro e w1 ⟨rfl, b1⟩
  have HB1 := Lib.hid (HB0.out.trans (b1.mono HB0.out.size))
  have HH1 := Lib.hid (Cf.stays HH0.out b1)
  clear b1 HAW HB0 HH0
  obtain ⟨e0, e1, e2, e3, e4, e5⟩ := six HH1.out
  go_wp2_with (fail)
  refine (HSM.out _).mono ?_
  rintro e w2 ⟨rfl, b2⟩
  have HB2 := Lib.hid (HB1.out.trans (b2.mono HB1.out.size))
  have HH2 := Lib.hid (Cf.stays HH1.out b2)
  clear b2 e0 e1 e2 e3 e4 e5 HB1 HH1 HSM
  obtain ⟨e0, e1, e2, e3, e4, e5⟩ := six HH2.out
  go_wp2_with (fail)
  refine (HO.out _).mono ?_
  rintro e w3 ⟨b, rfl, hb, hh, b3⟩
  have HB3 := Lib.hid (HB2.out.trans (b3.mono HB2.out.size))
  have HH3 := Lib.hid (Cf.stays HH2.out b3)
  have HR3 := Lib.hid hh
  clear b3 hb hh e0 e1 e2 e3 e4 e5 HB2 HH2 HO
  have HG0 := Lib.hid (HGN.out w3 b HB3.out HR3.out M HM.out.1 (Nat.le_refl _))
  generalize genT x s takeB M 0 ts = G at HHD HTK HGM HG0
  obtain ⟨g, hgl⟩ : ∃ g, G.length = g := ⟨_, rfl⟩
  rw [hgl] at HG0 HGM
  have HGL := Lib.hid hgl
  clear hgl
  go_wp2_with (fail)
  refine HG0.out.mono ?_
  rintro e w4 ⟨A, ca, rfl, hka, hca, b4⟩
  have HB4 := Lib.hid (HB3.out.trans (b4.mono HB3.out.size))
  have HR4 := Lib.hid (Br.stays HR3.out b4)
  have HKA := Lib.hid hka
  have HCA := Lib.hid (show g ≤ ca from hca)
  clear b4 hka hca HG0 HB3 HR3 HH3
  go_wp2_with (fail)
  refine (HRUN.out w4 b HB4.out HR4.out).mono ?_
  rintro e w5 ⟨EA, ec, SA, sc, R, rfl, _, _, hki, hsl, _, b5⟩
  have HB5 := Lib.hid (HB4.out.trans (b5.mono HB4.out.size))
  have HR5 := Lib.hid (Br.stays HR4.out b5)
  have HKA5 := Lib.hid (HKA.out.below b5 (Nat.le_refl _))
  have HBE := Lib.hid (show Calls Tryd.prog 16 #[.slice SA (vN x) sc] w5 fun e w' => e = .returned (.int .i64 (bestL (runS x s [] ts))) ∧ w5 = w' from soft_best w5 SA (vN x) sc _ hsl HV.out hki)
  clear b5 hki hsl HRUN HB4 HR4 HKA
  generalize bestL (runS x s [] ts) = B0 at HBE HHD
  rcases HHD.out with ⟨z0, hg0⟩ | ⟨z0, L, hg0⟩
  · have g0 : g = 0 := by rw [← HGL.out, hg0]; rfl
    have t20 : (B0 != 0) = false := by rw [z0]; rfl
    have t21 : (B0 == 0) = true := by rw [z0]; rfl
    have t22 : ((g : Int) != 0) = false := by rw [g0]; rfl
    have t23 : ((g : Int) == 0) = true := by rw [g0]; rfl
    clear z0 hg0 g0 HHD
    go_wp2_with (fail)
    refine HBE.out.mono ?_
    rintro e w6 ⟨rfl, rfl⟩
    go_wp2_with (fail)
    go_loopw [17] (fun iv wr => ∃ j : Nat, iv = .int .i64 (j : Int) ∧ 1 ≤ j ∧ j ≤ M ∧ Below w5.heap.size w5 wr) (fun iv _ => match iv with | .int _ z => M - z.toNat | _ => 0)
    case atStart => exact ⟨1, rfl, Nat.le_refl _, HM.out.1, Below.refl _ _⟩
    case round =>
      obtain ⟨j, rfl, hj1, hj2, hub⟩ := hrel
      have HU := Lib.hid hub
      have HJ1 := Lib.hid hj1
      have HB6 := Lib.hid (HB5.out.trans (hub.mono HB5.out.size))
      have HR6 := Lib.hid (Br.stays HR5.out hub)
      have HA6 := Lib.hid (HKA5.out.below hub (Nat.le_refl _))
      clear hub hj1
      have x2 : 0 ≤ (j : Int) := by omega
      by_cases hlt : j < M
      · have x0 : (j : Int) < (M : Int) := by omega
        have x1 : decide ((j : Int) < (M : Int)) = true := decide_eq_true x0
        have HLT := Lib.hid hlt
        have HX := Lib.hid (show Calls Tryd.prog 14 #[.pointer (some ⟨b, 0, none⟩), .slice T n c, .int .i64 (j : Int)] wr fun e w' => ∃ A2 c2, e = .returned (.tuple #[.slice A2 (G.take j).length c2, .int .i64 0]) ∧ KIn .i64 w' A2 (G.take j) ∧ Below wr.heap.size wr w' from
          (HGN.out wr b HB6.out HR6.out j HJ1.out hj2).mono fun e w' ⟨A2, c2, h1, h2, _, h4⟩ => by
            rw [HTK.out j hj2] at h1 h2
            exact ⟨A2, c2, h1, h2, h4⟩)
        clear hj2 hlt
        obtain ⟨q, hq⟩ : ∃ q, (G.take j).length = q := ⟨_, rfl⟩
        have HQ := Lib.hid (show q = min j g by rw [← hq, List.length_take, HGL.out])
        rw [hq] at HX
        have HQL := Lib.hid hq
        have HTQ := Lib.hid (show G.take q = G.take j by
          rw [HQ.out, List.take_eq_take_iff, HGL.out]
          omega)
        have HCQ := Lib.hid (show q ≤ ca by have := HQ.out; have := HCA.out; omega)
        clear hq
        go_wp2_with (fail)
        refine HX.out.mono ?_
        rintro e w7 ⟨A2, c2, rfl, hk2, b7⟩
        have HU7 := Lib.hid (HU.out.trans (b7.mono HU.out.size))
        have HK7 := Lib.hid hk2
        have HIN := Lib.hid (show Calls Tryd.prog 13 #[.slice A2 q c2, .slice A q ca] w7 fun e w' => e = .returned (.bool true) ∧ ∃ k, w' = w7.drewN k from by
          have h1 := (HA6.out.below b7 (Nat.le_refl _)).take q
          rw [HTQ.out] at h1
          have h2 := ints_any w7 A2 q c2 A q ca (G.take j) (G.take j) HQL.out HQL.out (by have := HQ.out; have := HM.out; omega) hk2 h1
          rw [decide_eq_true rfl] at h2
          exact h2)
        clear hk2 b7
        have y1 := cut_to g ca q ((q : Nat) : Int) A rfl HCQ.out
        have y2 : min (j : Int) (g : Int) = (q : Int) := by have := HQ.out; omega
        have y3 : min j g = q := HQ.out.symm
        have y4 := IntWalk.wrap64_in ((j : Int) + 1) (by have := HM.out; have := HLT.out; omega)
        go_wp2_with (fail)
        refine HIN.out.mono ?_
        rintro e w8 ⟨rfl, k8, rfl⟩
        go_wp2_with (fail)
        rw [y4]
        exact ⟨⟨j + 1, rfl, by omega, HLT.out, below_drewN HU7.out k8⟩, vcLess j M HLT.out⟩
      · have x0 : ¬ (j : Int) < (M : Int) := by omega
        have x1 : decide ((j : Int) < (M : Int)) = false := decide_eq_false x0
        have y1 : (g : Int) ≤ (M : Int) := by have := HGM.out; omega
        have y2 : decide ((g : Int) ≤ (M : Int)) = true := decide_eq_true y1
        clear hlt hj2
        go_wp2_with (fail)
        exact bodyPost_ret (results_tmp rfl _ _ _) rfl ⟨rfl, HB6.out⟩
  · have hgp : 0 < g := by rw [← HGL.out, hg0]; simp
    have t20 : (B0 != 0) = true := bne_iff_ne.2 z0
    have t21 : (B0 == 0) = false := beq_eq_false_iff_ne.2 z0
    have t23 : ((g : Int) == 0) = false := beq_eq_false_iff_ne.2 (by omega)
    have t24 : (0 : Int) < (g : Int) := by omega
    have t26 : (B0 != B0) = false := bne_self_eq_false _
    obtain ⟨pa, oa, hAe, hc0⟩ := HKA5.out.at (show 0 < G.length by rw [HGL.out]; exact hgp)
    subst hAe
    have e0 : G.getD 0 0 = B0 := by rw [hg0]; rfl
    rw [e0] at hc0
    have hc1 : w5.cell? ⟨pa, oa, none⟩ = some (.int .i64 B0) := by simpa using hc0
    clear z0 hg0 hgp HHD e0
    go_wp2_with (fail)
    refine HBE.out.mono ?_
    rintro e w6 ⟨rfl, rfl⟩
    go_wp2_with (fail)
    clear hc0 hc1
    obtain ⟨A, hAE⟩ : ∃ A : Option Addr, A = some ⟨pa, oa, none⟩ := ⟨_, rfl⟩
    rw [← hAE] at HKA5 ⊢
    clear hAE
    go_loopw [17] (fun iv wr => ∃ j : Nat, iv = .int .i64 (j : Int) ∧ 1 ≤ j ∧ j ≤ M ∧ Below w5.heap.size w5 wr) (fun iv _ => match iv with | .int _ z => M - z.toNat | _ => 0)
    case atStart => exact ⟨1, rfl, Nat.le_refl _, HM.out.1, Below.refl _ _⟩
    case round =>
      obtain ⟨j, rfl, hj1, hj2, hub⟩ := hrel
      have HU := Lib.hid hub
      have HJ1 := Lib.hid hj1
      have HB6 := Lib.hid (HB5.out.trans (hub.mono HB5.out.size))
      have HR6 := Lib.hid (Br.stays HR5.out hub)
      have HA6 := Lib.hid (HKA5.out.below hub (Nat.le_refl _))
      clear hub hj1
      have x2 : 0 ≤ (j : Int) := by omega
      by_cases hlt : j < M
      · have x0 : (j : Int) < (M : Int) := by omega
        have x1 : decide ((j : Int) < (M : Int)) = true := decide_eq_true x0
        have HLT := Lib.hid hlt
        have HX := Lib.hid (show Calls Tryd.prog 14 #[.pointer (some ⟨b, 0, none⟩), .slice T n c, .int .i64 (j : Int)] wr fun e w' => ∃ A2 c2, e = .returned (.tuple #[.slice A2 (G.take j).length c2, .int .i64 0]) ∧ KIn .i64 w' A2 (G.take j) ∧ Below wr.heap.size wr w' from
          (HGN.out wr b HB6.out HR6.out j HJ1.out hj2).mono fun e w' ⟨A2, c2, h1, h2, _, h4⟩ => by
            rw [HTK.out j hj2] at h1 h2
            exact ⟨A2, c2, h1, h2, h4⟩)
        clear hj2 hlt
        obtain ⟨q, hq⟩ : ∃ q, (G.take j).length = q := ⟨_, rfl⟩
        have HQ := Lib.hid (show q = min j g by rw [← hq, List.length_take, HGL.out])
        rw [hq] at HX
        have HQL := Lib.hid hq
        have HTQ := Lib.hid (show G.take q = G.take j by
          rw [HQ.out, List.take_eq_take_iff, HGL.out]
          omega)
        have HCQ := Lib.hid (show q ≤ ca by have := HQ.out; have := HCA.out; omega)
        clear hq
        go_wp2_with (fail)
        refine HX.out.mono ?_
        rintro e w7 ⟨A2, c2, rfl, hk2, b7⟩
        have HU7 := Lib.hid (HU.out.trans (b7.mono HU.out.size))
        have HK7 := Lib.hid hk2
        have HIN := Lib.hid (show Calls Tryd.prog 13 #[.slice A2 q c2, .slice A q ca] w7 fun e w' => e = .returned (.bool true) ∧ ∃ k, w' = w7.drewN k from by
          have h1 := (HA6.out.below b7 (Nat.le_refl _)).take q
          rw [HTQ.out] at h1
          have h2 := ints_any w7 A2 q c2 A q ca (G.take j) (G.take j) HQL.out HQL.out (by have := HQ.out; have := HM.out; omega) hk2 h1
          rw [decide_eq_true rfl] at h2
          exact h2)
        clear hk2 b7
        have y1 := cut_to g ca q ((q : Nat) : Int) A rfl HCQ.out
        have y2 : min (j : Int) (g : Int) = (q : Int) := by have := HQ.out; omega
        have y3 : min j g = q := HQ.out.symm
        have y4 := IntWalk.wrap64_in ((j : Int) + 1) (by have := HM.out; have := HLT.out; omega)
        go_wp2_with (fail)
        refine HIN.out.mono ?_
        rintro e w8 ⟨rfl, k8, rfl⟩
        go_wp2_with (fail)
        rw [y4]
        exact ⟨⟨j + 1, rfl, by omega, HLT.out, below_drewN HU7.out k8⟩, vcLess j M HLT.out⟩
      · have x0 : ¬ (j : Int) < (M : Int) := by omega
        have x1 : decide ((j : Int) < (M : Int)) = false := decide_eq_false x0
        have y1 : (g : Int) ≤ (M : Int) := by have := HGM.out; omega
        have y2 : decide ((g : Int) ≤ (M : Int)) = true := decide_eq_true y1
        clear hlt hj2
        go_wp2_with (fail)
        exact bodyPost_ret (results_tmp rfl _ _ _) rfl ⟨rfl, HB6.out⟩

end
theorem walk (w : World) (x : Cfg) (s : ByteArray) (T : Option Addr) (n c : Nat) (ts : List Int) (most : Int) (hts : ts.length = n) (hK : KIn .i64 w T ts) (hT : POn w ∧ GOn w) : Calls Tryd.prog 6 #[cfV x, .string s, .slice T n c, .int .i64 most] w fun e w' => e = .returned (.bool true) ∧ Below w.heap.size w w' := by
  obtain ⟨hp, hg⟩ := hT
  rcases Nat.lt_or_ge 8 n with h0 | h0
  · exact leaf_big w x s T n c most hp hg h0
  cases hs : smallG x with
  | false => exact leaf_great w x s T n c most hp hg h0 hs
  | true =>
    rcases Nat.lt_or_ge 2048 s.size with hl | hl
    · exact leaf_long w x s T n c most hp hg h0 hs hl
    rcases Classical.em (¬ Ok x s) with hk | hk
    · exact leaf_no w x s T n c most hp hg h0 hs hl hk
    replace hk := Classical.not_not.1 hk
    by_cases he : errG x most ts = 0
    · exact leaf_ok w x s T n c ts most hp hg hts hK h0 hs hl hk he
    · exact leaf_bad w x s T n c ts most hp hg hts hK h0 hs hl hk he
end genBest
end Go.Proofs.YtnfiojcfbohafaaDoor
