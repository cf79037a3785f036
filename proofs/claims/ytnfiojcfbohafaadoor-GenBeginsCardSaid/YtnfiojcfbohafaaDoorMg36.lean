/-
  GenBegins: what is said with fewer at most is a beginning of what is said with more; draws behind those that were used play no part. The walk. Condition: the tables lie where they are looked up.
-/
import Derived.Test.YtnfiojcfbohafaaDoorMg34
import Derived.Test.YtnfiojcfbohafaaDoorMg35
import Derived.Test.YtnfiojcfbohafaaDoorMg11
import Derived.Test.YtnfiojcfbohafaaDoorMg15
import Derived.Test.YtnfiojcfbohafaaDoorMg12
set_option maxRecDepth 100000
namespace Go.Proofs.YtnfiojcfbohafaaDoor
open Go.ChangeShapes Go.WideShapes Go.ChangeAt Go.RowKit Cf Vc Br Nr Sf Ac Sp Gn

namespace genBegins
section
variable (w : World) (x : Cfg) (s : ByteArray) (T : Option Addr) (n c : Nat) (ts : List Int) (most : Int) (D : Option Addr) (nd cd : Nat) (ds : List Int) (more : Int) (hp : POn w) (hg : GOn w) (hts : ts.length = n) (hK : KIn .i64 w T ts) (hds : ds.length = nd) (hD : KIn .i64 w D ds)

set_option maxRecDepth 100000 in
set_option maxHeartbeats 1600000 in
include hp hg in
theorem leaf_big (h0 : 8 < n) : Calls Tryd.prog 4 #[cfV x, .string s, .slice T n c, .int .i64 most, .slice D nd cd, .int .i64 more] w fun e w' => e = .returned (.bool true) ∧ Below w.heap.size w w' := by
  have HAW := Lib.hid (fun W (hW : Below w.heap.size w W) => awake18 W (hp.below hW (Nat.le_refl _)) (hg.below hW (Nat.le_refl _)))
  have HB0 := Lib.hid ((Below.refl w.heap.size w).alloc (Nat.le_refl _) (cfO 28 x))
  have HH0 := Lib.hid (heap_alloc_new w (cfO 28 x))
  have t0 : 8 < (n : Int) := by omega
  have t1 : decide (8 < (n : Int)) = true := decide_eq_true t0
  clear hp hg h0
  unfold cfV cfA at *
  go_enter Tryd.func4, Tryd.ntmps4
  go_wp2_with (fail)
  refine (HAW.out _ HB0.out).mono ?_
  rintro e w1 ⟨rfl, b1⟩
  have HB1 := Lib.hid (HB0.out.trans (b1.mono HB0.out.size))
  have HH1 := Lib.hid (Cf.stays HH0.out b1)
  clear b1 HAW HB0 HH0
  go_wp2_with (fail)
  exact bodyPost_ret (results_tmp rfl _ _ _) rfl ⟨rfl, HB1.out⟩

set_option maxRecDepth 100000 in
set_option maxHeartbeats 1600000 in
include hp hg in
theorem leaf_draws (h0 : n ≤ 8) (h1 : 8 < nd) : Calls Tryd.prog 4 #[cfV x, .string s, .slice T n c, .int .i64 most, .slice D nd cd, .int .i64 more] w fun e w' => e = .returned (.bool true) ∧ Below w.heap.size w w' := by
  have HAW := Lib.hid (fun W (hW : Below w.heap.size w W) => awake18 W (hp.below hW (Nat.le_refl _)) (hg.below hW (Nat.le_refl _)))
  have HB0 := Lib.hid ((Below.refl w.heap.size w).alloc (Nat.le_refl _) (cfO 28 x))
  have HH0 := Lib.hid (heap_alloc_new w (cfO 28 x))
  have t0 : ¬ 8 < (n : Int) := by omega
  have t1 : decide (8 < (n : Int)) = false := decide_eq_false t0
  have t2 : 8 < (nd : Int) := by omega
  have t3 : decide (8 < (nd : Int)) = true := decide_eq_true t2
  clear hp hg h0 h1
  unfold cfV cfA at *
  go_enter Tryd.func4, Tryd.ntmps4
  go_wp2_with (fail)
  refine (HAW.out _ HB0.out).mono ?_
  rintro e w1 ⟨rfl, b1⟩
  have HB1 := Lib.hid (HB0.out.trans (b1.mono HB0.out.size))
  have HH1 := Lib.hid (Cf.stays HH0.out b1)
  clear b1 HAW HB0 HH0
  go_wp2_with (fail)
  exact bodyPost_ret (results_tmp rfl _ _ _) rfl ⟨rfl, HB1.out⟩

set_option maxRecDepth 100000 in
set_option maxHeartbeats 1600000 in
include hp hg in
theorem leaf_great (h0 : n ≤ 8) (h1 : nd ≤ 8) (hs : smallG x = false) : Calls Tryd.prog 4 #[cfV x, .string s, .slice T n c, .int .i64 most, .slice D nd cd, .int .i64 more] w fun e w' => e = .returned (.bool true) ∧ Below w.heap.size w w' := by
  have HAW := Lib.hid (fun W (hW : Below w.heap.size w W) => awake18 W (hp.below hW (Nat.le_refl _)) (hg.below hW (Nat.le_refl _)))
  have HB0 := Lib.hid ((Below.refl w.heap.size w).alloc (Nat.le_refl _) (cfO 28 x))
  have HH0 := Lib.hid (heap_alloc_new w (cfO 28 x))
  have HSM := Lib.hid (fun W => small18 x W)
  rw [hs] at HSM
  have t0 : ¬ 8 < (n : Int) := by omega
  have t1 : decide (8 < (n : Int)) = false := decide_eq_false t0
  have t2 : ¬ 8 < (nd : Int) := by omega
  have t3 : decide (8 < (nd : Int)) = false := decide_eq_false t2
  clear hp hg h0 h1 hs
  unfold cfV cfA at *
  go_enter Tryd.func4, Tryd.ntmps4
  go_wp2_with (fail)
  refine (HAW.out _ HB0.out).mono ?_
  rintro e w1 ⟨rfl, b1⟩
  have HB1 := Lib.hid (HB0.out.trans (b1.mono HB0.out.size))
  have HH1 := Lib.hid (Cf.stays HH0.out b1)
  clear b1 HAW HB0 HH0
  obtain ⟨e0, e1, e2, e3, e4, e5⟩ := six HH1.out
  go_wp2_with (fail)
  refine (HSM.out _).mono ?_
  rintro e w2 ⟨rfl, b2⟩
  have HB2 := Lib.hid (HB1.out.trans (b2.mono HB1.out.size))
  have HH2 := Lib.hid (Cf.stays HH1.out b2)
  clear b2 e0 e1 e2 e3 e4 e5 HB1 HH1 HSM
  go_wp2_with (fail)
  exact bodyPost_ret (results_tmp rfl _ _ _) rfl ⟨rfl, HB2.out⟩

set_option maxRecDepth 100000 in
set_option maxHeartbeats 1600000 in
include hp hg in
theorem leaf_long (h0 : n ≤ 8) (h1 : nd ≤ 8) (hs : smallG x = true) (hl : 2048 < s.size) : Calls Tryd.prog 4 #[cfV x, .string s, .slice T n c, .int .i64 most, .slice D nd cd, .int .i64 more] w fun e w' => e = .returned (.bool true) ∧ Below w.heap.size w w' := by
  have HAW := Lib.hid (fun W (hW : Below w.heap.size w W) => awake18 W (hp.below hW (Nat.le_refl _)) (hg.below hW (Nat.le_refl _)))
  have HB0 := Lib.hid ((Below.refl w.heap.size w).alloc (Nat.le_refl _) (cfO 28 x))
  have HH0 := Lib.hid (heap_alloc_new w (cfO 28 x))
  have HSM := Lib.hid (fun W => small18 x W)
  rw [hs] at HSM
  have t0 : ¬ 8 < (n : Int) := by omega
  have t1 : decide (8 < (n : Int)) = false := decide_eq_false t0
  have t2 : ¬ 8 < (nd : Int) := by omega
  have t3 : decide (8 < (nd : Int)) = false := decide_eq_false t2
  have t4 : 2048 < (s.size : Int) := by omega
  have t5 : decide (2048 < (s.size : Int)) = true := decide_eq_true t4
  clear hp hg h0 h1 hs hl
  unfold cfV cfA at *
  go_enter Tryd.func4, Tryd.ntmps4
  go_wp2_with (fail)
  refine (HAW.out _ HB0.out).mono ?_
  rintro e w1 ⟨rfl, b1⟩
  have HB1 := Lib.hid (HB0.out.trans (b1.mono HB0.out.size))
  have HH1 := Lib.hid (Cf.stays HH0.out b1)
  clear b1 HAW HB0 HH0
  obtain ⟨e0, e1, e2, e3, e4, e5⟩ := six HH1.out
  go_wp2_with (fail)
  refine (HSM.out _).mono ?_
  rintro e w2 ⟨rfl, b2⟩
  have HB2 := Lib.hid (HB1.out.trans (b2.mono HB1.out.size))
  have HH2 := Lib.hid (Cf.stays HH1.out b2)
  clear b2 e0 e1 e2 e3 e4 e5 HB1 HH1 HSM
  go_wp2_with (fail)
  exact bodyPost_ret (results_tmp rfl _ _ _) rfl ⟨rfl, HB2.out⟩

set_option maxRecDepth 100000 in
set_option maxHeartbeats 1600000 in
include hp hg in
theorem leaf_no (h0 : n ≤ 8) (h1 : nd ≤ 8) (hs : smallG x = true) (hl : s.size ≤ 2048) (hk : ¬ Ok x s) : Calls Tryd.prog 4 #[cfV x, .string s, .slice T n c, .int .i64 most, .slice D nd cd, .int .i64 more] w fun e w' => e = .returned (.bool true) ∧ Below w.heap.size w w' := by
  obtain ⟨m, hm, ho⟩ : ∃ m : Int, m ≠ 0 ∧ ∀ W, Calls Tryd.prog 11 #[cfV x, .string s] W fun e w' => e = .returned (.tuple #[.pointer none, .int .i64 m]) ∧ Below W.heap.size W w' := by
    cases hgz : goodZ x with
    | false => exact ⟨1, by decide, fun W => brain_of_arg W x s hgz⟩
    | true => exact ⟨5, by decide, fun W => brain_of_form W x s hgz fun hs => hk ⟨good_iff.1 hgz, hs⟩⟩
  have HO := Lib.hid ho
  have t8 : (m != 0) = true := bne_iff_ne.2 hm
  have HAW := Lib.hid (fun W (hW : Below w.heap.size w W) => awake18 W (hp.below hW (Nat.le_refl _)) (hg.below hW (Nat.le_refl _)))
  have HB0 := Lib.hid ((Below.refl w.heap.size w).alloc (Nat.le_refl _) (cfO 28 x))
  have HH0 := Lib.hid (heap_alloc_new w (cfO 28 x))
  have HSM := Lib.hid (fun W => small18 x W)
  rw [hs] at HSM
  have t0 : ¬ 8 < (n : Int) := by omega
  have t1 : decide (8 < (n : Int)) = false := decide_eq_false t0
  have t2 : ¬ 8 < (nd : Int) := by omega
  have t3 : decide (8 < (nd : Int)) = false := decide_eq_false t2
  have t4 : ¬ 2048 < (s.size : Int) := by omega
  have t5 : decide (2048 < (s.size : Int)) = false := decide_eq_false t4
  clear hp hg h0 h1 hs hl hk ho hm
  unfold cfV cfA at *
  go_enter Tryd.func4, Tryd.ntmps4
  go_wp2_with (fail)
  refine (HAW.out _ HB0.out).mono ?_
  rintro e w1 ⟨rfl, b1⟩
  have HB1 := Lib.hid (HB0.out.trans (b1.mono HB0.out.size))
  have HH1 := Lib.hid (Cf.stays HH0.out b1)
  clear b1 HAW HB0 HH0
  obtain ⟨e0, e1, e2, e3, e4, e5⟩ := six HH1.out
  go_wp2_with (fail)
  refine (HSM.out _).mono ?_
  rintro e w2 ⟨rfl, b2⟩
  have HB2 := Lib.hid (HB1.out.trans (b2.mono HB1.out.size))
  have HH2 := Lib.hid (Cf.stays HH1.out b2)
  clear b2 e0 e1 e2 e3 e4 e5 HB1 HH1 HSM
  obtain ⟨e0, e1, e2, e3, e4, e5⟩ := six HH2.out
  go_wp2_with (fail)
  refine (HO.out _).mono ?_
  rintro e w3 ⟨rfl, b3⟩
  have HB3 := Lib.hid (HB2.out.trans (b3.mono HB2.out.size))
  clear b3
  go_wp2_with (fail)
  exact bodyPost_ret (results_tmp rfl _ _ _) rfl ⟨rfl, HB3.out⟩

set_option maxRecDepth 100000 in
set_option maxHeartbeats 1600000 in
include hp hg hts hK in
theorem leaf_bad (h0 : n ≤ 8) (h1 : nd ≤ 8) (hs : smallG x = true) (hl : s.size ≤ 2048) (hk : Ok x s) (he : errG x most ts ≠ 0) : Calls Tryd.prog 4 #[cfV x, .string s, .slice T n c, .int .i64 most, .slice D nd cd, .int .i64 more] w fun e w' => e = .returned (.bool true) ∧ Below w.heap.size w w' := by
  have HO := Lib.hid (fun W => brain_of W x s hk)
  have HAW := Lib.hid (fun W (hW : Below w.heap.size w W) => awake18 W (hp.below hW (Nat.le_refl _)) (hg.below hW (Nat.le_refl _)))
  have HB0 := Lib.hid ((Below.refl w.heap.size w).alloc (Nat.le_refl _) (cfO 28 x))
  have HH0 := Lib.hid (heap_alloc_new w (cfO 28 x))
  have HSM := Lib.hid (fun W => small18 x W)
  rw [hs] at HSM
  have t0 : ¬ 8 < (n : Int) := by omega
  have t1 : decide (8 < (n : Int)) = false := decide_eq_false t0
  have t2 : ¬ 8 < (nd : Int) := by omega
  have t3 : decide (8 < (nd : Int)) = false := decide_eq_false t2
  have t4 : ¬ 2048 < (s.size : Int) := by omega
  have t5 : decide (2048 < (s.size : Int)) = false := decide_eq_false t4
  have HGN := Lib.hid (fun W b (hW : Below w.heap.size w W) (hb : W.heap[b]? = some (brO x s)) => gen_gen_not W b x s hb T n c ts hts (by omega) (hK.below hW (Nat.le_refl _)) D nd cd most he)
  generalize errG x most ts = r at HGN he
  have t9 : (r != 0) = true := bne_iff_ne.2 he
  clear hp hg hts hK h0 h1 hs hl hk he
  unfold cfV cfA at *
  go_enter Tryd.func4, Tryd.ntmps4
  go_wp2_with (fail)
  refine (HAW.out _ HB0.out).mono ?_
  rintro e w1 ⟨rfl, b1⟩
  have HB1 := Lib.hid (HB0.out.trans (b1.mono HB0.out.size))
  have HH1 := Lib.hid (Cf.stays HH0.out b1)
  clear b1 HAW HB0 HH0
  obtain ⟨e0, e1, e2, e3, e4, e5⟩ := six HH1.out
  go_wp2_with (fail)
  refine (HSM.out _).mono ?_
  rintro e w2 ⟨rfl, b2⟩
  have HB2 := Lib.hid (HB1.out.trans (b2.mono HB1.out.size))
  have HH2 := Lib.hid (Cf.stays HH1.out b2)
  clear b2 e0 e1 e2 e3 e4 e5 HB1 HH1 HSM
  obtain ⟨e0, e1, e2, e3, e4, e5⟩ := six HH2.out
  go_wp2_with (fail)
  refine (HO.out _).mono ?_
  rintro e w3 ⟨b, rfl, hb, hh, b3⟩
  have HB3 := Lib.hid (HB2.out.trans (b3.mono HB2.out.size))
  have HH3 := Lib.hid (Cf.stays HH2.out b3)
  have HR3 := Lib.hid hh
  clear b3 hb hh e0 e1 e2 e3 e4 e5 HB2 HH2 HO
  go_wp2_with (fail)
  refine (HGN.out _ _ HB3.out HR3.out).mono ?_
  rintro e w4 ⟨rfl, b4⟩
  have HB4 := Lib.hid (HB3.out.trans (b4.mono HB3.out.size))
  clear b4
  go_wp2_with (fail)
  exact bodyPost_ret (results_tmp rfl _ _ _) rfl ⟨rfl, HB4.out⟩

set_option maxRecDepth 100000 in
set_option maxHeartbeats 12800000 in
include hp hg hts hK hds hD in
theorem leaf_ok (h0 : n ≤ 8) (h1 : nd ≤ 8) (hs : smallG x = true) (hl : s.size ≤ 2048) (hk : Ok x s) (he : errG x most ts = 0) : Calls Tryd.prog 4 #[cfV x, .string s, .slice T n c, .int .i64 most, .slice D nd cd, .int .i64 more] w fun e w' => e = .returned (.bool true) ∧ Below w.heap.size w w' := by
  have HO := Lib.hid (fun W => brain_of W x s hk)
  have HAW := Lib.hid (fun W (hW : Below w.heap.size w W) => awake18 W (hp.below hW (Nat.le_refl _)) (hg.below hW (Nat.le_refl _)))
  have HB0 := Lib.hid ((Below.refl w.heap.size w).alloc (Nat.le_refl _) (cfO 28 x))
  have HH0 := Lib.hid (heap_alloc_new w (cfO 28 x))
  have HSM := Lib.hid (fun W => small18 x W)
  rw [hs] at HSM
  have t0 : ¬ 8 < (n : Int) := by omega
  have t1 : decide (8 < (n : Int)) = false := decide_eq_false t0
  have t2 : ¬ 8 < (nd : Int) := by omega
  have t3 : decide (8 < (nd : Int)) = false := decide_eq_false t2
  have t4 : ¬ 2048 < (s.size : Int) := by omega
  have t5 : decide (2048 < (s.size : Int)) = false := decide_eq_false t4
  obtain ⟨M, rfl, hM1, hM2⟩ := errG_most he
  have HM := Lib.hid (And.intro hM1 hM2)
  have HGN := Lib.hid (fun W b (hW : Below w.heap.size w W) (hb : W.heap[b]? = some (brO x s)) (j : Nat) (h1 : 1 ≤ j) (h2 : j ≤ M) (D' : Option Addr) (nd' cd' : Nat) (ds' : List Int) (hd : ds'.length = nd') (hD' : KIn .i64 W D' ds') => gen_gen W b x s hb hk T n c ts hts (by omega) (hK.below hW (Nat.le_refl _)) D' nd' cd' ds' hd hD' j (errG_less he h1 h2) (hp.below hW (Nat.le_refl _)) (hg.below hW (Nat.le_refl _)))
  have HKD := Lib.hid (fun W (hW : Below w.heap.size w W) => hD.below hW (Nat.le_refl _))
  have HDS := Lib.hid hds
  have HND := Lib.hid h1
  have hvv := dims hk.good.is
  have hv2 := hk.good.is.v2
  have hv32 := hk.good.is.v32
  have HIN := Lib.hid (fun z (hz : z ∈ genT x s (takeD ds) M 0 ts) => show 0 < z ∧ z < x.v by
    have h1 := genT_in x s (takeD ds) (takeD_in ds) (by omega) (by omega) (fun T hT => runS_length x s T [] hT) M 0 ts (List.length_pos_iff.1 (errG_ok.1 he).1) z hz
    omega)
  have HTK := Lib.hid (fun j (h : j ≤ M) => genT_take x s (takeD ds) j M 0 ts h)
  have HGM := Lib.hid (genT_length x s (takeD ds) M 0 ts)
  have HSA := Lib.hid (fun (h : M ≤ nd) => show genT x s (takeD (ds ++ [more])) M 0 ts = genT x s (takeD ds) M 0 ts from genT_same x s M 0 0 ts fun j hj sc => by
    unfold takeD
    rw [Nat.zero_add, getD_left (by omega)])
  have HSB := Lib.hid (show genT x s (takeD (ds ++ [0])) M 0 ts = genT x s (takeD ds) M 0 ts from genT_same x s M 0 0 ts fun j hj sc => by
    unfold takeD
    rw [getD_zero])
  unfold SaidSays at HGN
  obtain ⟨i0, hi, hz0, hz1, hz2⟩ := info_parts info_int
  have HI := Lib.hid hi
  have HZ0 := Lib.hid hz0
  have HZ1 := Lib.hid hz1
  have HZ2 := Lib.hid hz2
  clear hM1 hM2 hvv hv2 hv32 hi hz0 hz1 hz2
  clear hp hg hts hK hds hD h0 h1 hs hl hk he
  unfold cfV cfA at *
  go_enter Tryd.func4, Tryd.ntmps4
  go_wp2_with (fail)
  refine (HAW.out _ HB0.out).mono ?_
  rintro e w1 ⟨rfl, b1⟩
  have HB1 := Lib.hid (HB0.out.trans (b1.mono HB0.out.size))
  have HH1 := Lib.hid (Cf.stays HH0.out b1)
  clear b1 HAW HB0 HH0
  obtain ⟨e0, e1, e2, e3, e4, e5⟩ := six HH1.out
  go_wp2_with (fail)
  refine (HSM.out _).mono ?_
  rintro e w2 ⟨rfl, b2⟩
  have HB2 := Lib.hid (HB1.out.trans (b2.mono HB1.out.size))
  have HH2 := Lib.hid (Cf.stays HH1.out b2)
  clear b2 e0 e1 e2 e3 e4 e5 HB1 HH1 HSM
  obtain ⟨e0, e1, e2, e3, e4, e5⟩ := six HH2.out
  go_wp2_with (fail)
  refine (HO.out _).mono ?_
  rintro e w3 ⟨b, rfl, hb, hh, b3⟩
  have HB3 := Lib.hid (HB2.out.trans (b3.mono HB2.out.size))
  have HH3 := Lib.hid (Cf.stays HH2.out b3)
  have HR3 := Lib.hid hh
  clear b3 hb hh e0 e1 e2 e3 e4 e5 HB2 HH2 HO
  have HG0 := Lib.hid (HGN.out w3 b HB3.out HR3.out M HM.out.1 (Nat.le_refl _) D nd cd ds HDS.out (HKD.out w3 HB3.out))
  generalize hGe : genT x s (takeD ds) M 0 ts = G at HIN HTK HGM HG0 HSA HSB
  obtain ⟨g, hgl⟩ : ∃ g, G.length = g := ⟨_, rfl⟩
  rw [hgl] at HG0 HGM
  have HGL := Lib.hid hgl
  have HGX := Lib.hid hGe
  clear hgl hGe
  have t20 : ¬ (M : Int) < (g : Int) := by have := HGM.out; omega
  have t21 : decide ((M : Int) < (g : Int)) = false := decide_eq_false t20
  have t22 : decide (M < g) = false := decide_eq_false (by have := HGM.out; omega)
  have t23 : g ≤ M := HGM.out
  go_wp2_with (fail)
  refine HG0.out.mono ?_
  rintro e w4 ⟨A, ca, rfl, hka, hca, b4⟩
  have HB4 := Lib.hid (HB3.out.trans (b4.mono HB3.out.size))
  have HR4 := Lib.hid (Br.stays HR3.out b4)
  have HH4 := Lib.hid (Cf.stays HH3.out b4)
  have HKA := Lib.hid hka
  have HCA := Lib.hid (show g ≤ ca from hca)
  clear b4 hka hca HG0 HB3 HR3 HH3
  go_wp2_with (fail)
  go_loopw [17] (fun iv wr => ∃ j : Nat, iv = .int .i64 (j : Int) ∧ 1 ≤ j ∧ j ≤ M ∧ Below w4.heap.size w4 wr) (fun iv _ => match iv with | .int _ z => M - z.toNat | _ => 0)
  case atStart => exact ⟨1, rfl, Nat.le_refl _, HM.out.1, Below.refl _ _⟩
  case round =>
    obtain ⟨j, rfl, hj1, hj2, hub⟩ := hrel
    have HU := Lib.hid hub
    have HJ1 := Lib.hid hj1
    have HB6 := Lib.hid (HB4.out.trans (hub.mono HB4.out.size))
    have HR6 := Lib.hid (Br.stays HR4.out hub)
    have HH6 := Lib.hid (Cf.stays HH4.out hub)
    have HA6 := Lib.hid (HKA.out.below hub (Nat.le_refl _))
    clear hub hj1
    have x2 : 0 ≤ (j : Int) := by omega
    by_cases hlt : j < M
    · have x0 : (j : Int) < (M : Int) := by omega
      have x1 : decide ((j : Int) < (M : Int)) = true := decide_eq_true x0
      have HLT := Lib.hid hlt
      have HX := Lib.hid (show Calls Tryd.prog 12 #[.pointer (some ⟨b, 0, none⟩), .slice T n c, .int .i64 (j : Int), .slice D nd cd] wr fun e w' => ∃ A2 c2, e = .returned (.tuple #[.slice A2 (G.take j).length c2, .int .i64 0]) ∧ KIn .i64 w' A2 (G.take j) ∧ Below wr.heap.size wr w' from
        (HGN.out wr b HB6.out HR6.out j HJ1.out hj2 D nd cd ds HDS.out (HKD.out wr HB6.out)).mono fun e w' ⟨A2, c2, h1, h2, _, h4⟩ => by
          rw [HTK.out j hj2] at h1 h2
          exact ⟨A2, c2, h1, h2, h4⟩)
      clear hj2 hlt t20 t21 t22 t23
      obtain ⟨q, hq⟩ : ∃ q, (G.take j).length = q := ⟨_, rfl⟩
      have HQ := Lib.hid (show q = min j g by rw [← hq, List.length_take, HGL.out])
      rw [hq] at HX
      have HQL := Lib.hid hq
      have HTQ := Lib.hid (show G.take q = G.take j by
        rw [HQ.out, List.take_eq_take_iff, HGL.out]
        omega)
      have HCQ := Lib.hid (show q ≤ ca by have := HQ.out; have := HCA.out; omega)
      clear hq
      go_wp2_with (fail)
      refine HX.out.mono ?_
      rintro e w7 ⟨A2, c2, rfl, hk2, b7⟩
      have HU7 := Lib.hid (HU.out.trans (b7.mono HU.out.size))
      have HIN2 := Lib.hid (show Calls Tryd.prog 13 #[.slice A2 q c2, .slice A q ca] w7 fun e w' => e = .returned (.bool true) ∧ ∃ k, w' = w7.drewN k from by
        have h1 := (HA6.out.below b7 (Nat.le_refl _)).take q
        rw [HTQ.out] at h1
        have h2 := ints_any w7 A2 q c2 A q ca (G.take j) (G.take j) HQL.out HQL.out (by have := HQ.out; have := HM.out; omega) hk2 h1
        rw [decide_eq_true rfl] at h2
        exact h2)
      clear hk2 b7
      have y1 := cut_to g ca q ((q : Nat) : Int) A rfl HCQ.out
      have y2 : min (j : Int) (g : Int) = (q : Int) := by have := HQ.out; omega
      have y3 : min j g = q := HQ.out.symm
      have y5 : ((q : Int) != (q : Int)) = false := bne_self_eq_false _
      have y4 := IntWalk.wrap64_in ((j : Int) + 1) (by have := HM.out; have := HLT.out; omega)
      go_wp2_with (fail)
      refine HIN2.out.mono ?_
      rintro e w8 ⟨rfl, k8, rfl⟩
      go_wp2_with (fail)
      rw [y4]
      exact ⟨⟨j + 1, rfl, by omega, HLT.out, below_drewN HU7.out k8⟩, vcLess j M HLT.out⟩
    · have x0 : ¬ (j : Int) < (M : Int) := by omega
      have x1 : decide ((j : Int) < (M : Int)) = false := decide_eq_false x0
      clear hlt hj2 HB4 HR4 HH4 HKA t20 t21 t22 t23
      generalize wr = w5 at HU HB6 HR6 HH6 HA6 ⊢
      go_wp2_with (fail)
      go_loopw [20] (fun iv wr => ∃ (i d : Nat), iv = .int .i64 (i : Int) ∧ i ≤ g ∧ wr = w5.drewN d) (fun iv _ => match iv with | .int _ z => g - z.toNat | _ => 0)
      case atStart => exact ⟨0, 0, rfl, Nat.zero_le _, rfl⟩
      case round =>
        obtain ⟨i, d, rfl, hi, rfl⟩ := hrel
        have x2 : 0 ≤ (i : Int) := by omega
        by_cases hlt : i < g
        · have x4 : (i : Int) < (g : Int) := by omega
          have x5 : decide ((i : Int) < (g : Int)) = true := decide_eq_true x4
          have HLT := Lib.hid hlt
          have hl : i < G.length := by rw [HGL.out]; exact hlt
          obtain ⟨pa, oa, rfl, hc1⟩ := HA6.out.at hl
          have hz := HIN.out (G.getD i 0) (by rw [List.getD_eq_getElem?_getD, List.getElem?_eq_getElem hl]; exact List.getElem_mem _)
          generalize G.getD i 0 = z at hc1 hz
          have y1 : decide (z ≤ 0) = false := decide_eq_false (by omega)
          have y2 : decide (x.v ≤ z) = false := decide_eq_false (by omega)
          have y3 : ¬ z ≤ 0 := by omega
          have y6 : ¬ x.v ≤ z := by omega
          have y4 := IntWalk.wrap64_in ((i : Int) + 1) (by have := HGM.out; have := HM.out; have := HLT.out; omega)
          obtain ⟨e0, e1, e2, e3, e4, e5⟩ := six HH6.out
          clear hz hl hlt hi
          go_wp2_with (fail)
          go_quiet (fail)
          go_wp2_with (fail)
          try rw [y4]
          exact ⟨⟨i + 1, _, rfl, HLT.out, rfl⟩, vcLess i g HLT.out⟩
        · have x4 : ¬ (i : Int) < (g : Int) := by omega
          have x5 : decide ((i : Int) < (g : Int)) = false := decide_eq_false x4
          clear hlt hi
          have HV0 := Lib.hid (below_drewN (Below.refl w5.heap.size w5) d)
          have HB7 := Lib.hid (HB6.out.trans (HV0.out.mono HB6.out.size))
          have HR7 := Lib.hid (Br.stays HR6.out HV0.out)
          have HA7 := Lib.hid (HA6.out.below HV0.out (Nat.le_refl _))
          clear HV0 HB6 HR6 HA6 HH6
          generalize w5.drewN d = w7 at HB7 HR7 HA7 ⊢
          by_cases hMn : M ≤ nd
          · have y1 : (M : Int) ≤ (nd : Int) := by omega
            have y2 : decide ((M : Int) ≤ (nd : Int)) = true := decide_eq_true y1
            have y3 : decide (M ≤ nd) = true := decide_eq_true hMn
            have HSM1 := Lib.hid (HSA.out hMn)
            have HO0 := Lib.hid (Own.new w7 w7.heap.size (Nat.le_refl _))
            have HC0 := Lib.hid ((Below.refl w7.heap.size w7).alloc (Nat.le_refl _) (.cells #[] 3))
            have HKN := Lib.hid (HKD.out _ (HB7.out.trans (HC0.out.mono HB7.out.size)))
            have HLN := Lib.hid (show ([] : List Int).length + ds.length = nd by rw [HDS.out]; exact Nat.zero_add nd)
            have HSM := Lib.hid (show nd ≤ 4096 ∧ nd + 1 ≤ 4096 by have := HND.out; omega)
            have HLM := Lib.hid (show ([] ++ ds).length + [more].length = nd + 1 by rw [List.nil_append, HDS.out]; rfl)
            clear HC0 hMn
            go_wp2_with (first
              | (with_reducible refine wpList_buildNone rfl 22 3 rfl i0 Tryd.underlying22 HI.out ?_)
              | (at_builtin; refine wpList_ints_every rfl (.tmp 131) (.tmp 132) rfl w7.heap.size (.slice (some ⟨w7.heap.size, 0, none⟩) 0 0) [] ds rfl HO0.out (by intro e; cases e) D nd cd rfl HDS.out HKN.out nd HLN.out HSM.out.1 (by simp) ?_; intro g1 cap1 w8 hown1 hgrow1; have HO1 := Lib.hid hown1; have HC1 := Lib.hid (((Below.refl w7.heap.size w7).alloc (Nat.le_refl _) (.cells #[] 3)).grown hgrow1 (by simp) (fun i hi => (HO0.out.lt i hi).1)); clear hown1 hgrow1)
              | (at_builtin; refine wpList_ints_every rfl (.tmp 133) (.tmp 135) rfl w7.heap.size (.slice (some ⟨g1, 0, none⟩) nd cap1) ([] ++ ds) [more] rfl (World.ownsRow.alloc HO1.out _) (by intro e; cases e) (some ⟨w8.heap.size, 0, none⟩) 1 1 rfl rfl (kin1 w8 w8.heap.size more rfl) (nd + 1) HLM.out HSM.out.2 (base_le HC1.out rfl _) ?_; intro g2 cap2 w9 hown2 hgrow2; have HO2 := Lib.hid hown2; have HC2 := Lib.hid (below_grew HC1.out rfl HO1.out _ hgrow2); clear hown2 hgrow2))
            have HB9 := Lib.hid (HB7.out.trans (HC2.out.mono HB7.out.size))
            have HG9 := Lib.hid (show Calls Tryd.prog 12 #[.pointer (some ⟨b, 0, none⟩), .slice T n c, .int .i64 (M : Int), .slice (some ⟨g2, 0, none⟩) (nd + 1) cap2] w9 fun e w' => ∃ A2 c2, e = .returned (.tuple #[.slice A2 g c2, .int .i64 0]) ∧ KIn .i64 w' A2 G ∧ Below w9.heap.size w9 w' from
              (HGN.out w9 b HB9.out (Br.stays HR7.out HC2.out) M HM.out.1 (Nat.le_refl _) (some ⟨g2, 0, none⟩) (nd + 1) cap2 (ds ++ [more]) (by rw [List.length_append, HDS.out]; rfl) (by have := HO2.out; rw [List.nil_append] at this; exact this.kin)).mono fun e w' ⟨A2, c2, h1, h2, _, h4⟩ => by
                rw [HSM1.out] at h1 h2
                rw [HGL.out] at h1
                exact ⟨A2, c2, h1, h2, h4⟩)
            refine HG9.out.mono ?_
            rintro e w10 ⟨A2, c2, rfl, hk2, b10⟩
            have HB10 := Lib.hid (HB9.out.trans (b10.mono HB9.out.size))
            have HINT := Lib.hid (show Calls Tryd.prog 13 #[.slice A g ca, .slice A2 g c2] w10 fun e w' => e = .returned (.bool true) ∧ ∃ k, w' = w10.drewN k from by
              have h2 := ints_any w10 A g ca A2 g c2 G G HGL.out HGL.out (by have := HGM.out; have := HM.out; omega) (HA7.out.below (HC2.out.trans (b10.mono HC2.out.size)) (Nat.le_refl _)) hk2
              rw [decide_eq_true rfl] at h2
              exact h2)
            clear hk2 b10
            go_wp2_with (fail)
            refine HINT.out.mono ?_
            rintro e w11 ⟨rfl, q11, rfl⟩
            go_wp2_with (fail)
            exact bodyPost_ret (results_tmp rfl _ _ _) rfl ⟨rfl, below_drewN HB10.out q11⟩
          · have y1 : ¬ (M : Int) ≤ (nd : Int) := by omega
            have y2 : decide ((M : Int) ≤ (nd : Int)) = false := decide_eq_false y1
            have y3 : decide (M ≤ nd) = false := decide_eq_false hMn
            have HO0 := Lib.hid (Own.new w7 w7.heap.size (Nat.le_refl _))
            have HC0 := Lib.hid ((Below.refl w7.heap.size w7).alloc (Nat.le_refl _) (.cells #[] 3))
            have HKN := Lib.hid (HKD.out _ (HB7.out.trans (HC0.out.mono HB7.out.size)))
            have HLN := Lib.hid (show ([] : List Int).length + ds.length = nd by rw [HDS.out]; exact Nat.zero_add nd)
            have HSM := Lib.hid (show nd ≤ 4096 ∧ nd + 1 ≤ 4096 by have := HND.out; omega)
            have HLM := Lib.hid (show ([] ++ ds).length + [0].length = nd + 1 by rw [List.nil_append, HDS.out]; rfl)
            clear HC0 hMn
            go_wp2_with (first
              | (with_reducible refine wpList_buildNone rfl 22 3 rfl i0 Tryd.underlying22 HI.out ?_)
              | (at_builtin; refine wpList_ints_every rfl (.tmp 151) (.tmp 152) rfl w7.heap.size (.slice (some ⟨w7.heap.size, 0, none⟩) 0 0) [] ds rfl HO0.out (by intro e; cases e) D nd cd rfl HDS.out HKN.out nd HLN.out HSM.out.1 (by simp) ?_; intro g1 cap1 w8 hown1 hgrow1; have HO1 := Lib.hid hown1; have HC1 := Lib.hid (((Below.refl w7.heap.size w7).alloc (Nat.le_refl _) (.cells #[] 3)).grown hgrow1 (by simp) (fun i hi => (HO0.out.lt i hi).1)); clear hown1 hgrow1)
              | (at_builtin; refine wpList_ints_every rfl (.tmp 153) (.tmp 154) rfl w7.heap.size (.slice (some ⟨g1, 0, none⟩) nd cap1) ([] ++ ds) [0] rfl (World.ownsRow.alloc HO1.out _) (by intro e; cases e) (some ⟨w8.heap.size, 0, none⟩) 1 1 rfl rfl (kin1 w8 w8.heap.size 0 rfl) (nd + 1) HLM.out HSM.out.2 (base_le HC1.out rfl _) ?_; intro g2 cap2 w9 hown2 hgrow2; have HO2 := Lib.hid hown2; have HC2 := Lib.hid (below_grew HC1.out rfl HO1.out _ hgrow2); clear hown2 hgrow2))
            have HB9 := Lib.hid (HB7.out.trans (HC2.out.mono HB7.out.size))
            have HG9 := Lib.hid (show Calls Tryd.prog 12 #[.pointer (some ⟨b, 0, none⟩), .slice T n c, .int .i64 (M : Int), .slice (some ⟨g2, 0, none⟩) (nd + 1) cap2] w9 fun e w' => ∃ A2 c2, e = .returned (.tuple #[.slice A2 g c2, .int .i64 0]) ∧ KIn .i64 w' A2 G ∧ Below w9.heap.size w9 w' from
              (HGN.out w9 b HB9.out (Br.stays HR7.out HC2.out) M HM.out.1 (Nat.le_refl _) (some ⟨g2, 0, none⟩) (nd + 1) cap2 (ds ++ [0]) (by rw [List.length_append, HDS.out]; rfl) (by have := HO2.out; rw [List.nil_append] at this; exact this.kin)).mono fun e w' ⟨A2, c2, h1, h2, _, h4⟩ => by
                rw [HSB.out] at h1 h2
                rw [HGL.out] at h1
                exact ⟨A2, c2, h1, h2, h4⟩)
            refine HG9.out.mono ?_
            rintro e w10 ⟨A2, c2, rfl, hk2, b10⟩
            have HB10 := Lib.hid (HB9.out.trans (b10.mono HB9.out.size))
            have HINT := Lib.hid (show Calls Tryd.prog 13 #[.slice A g ca, .slice A2 g c2] w10 fun e w' => e = .returned (.bool true) ∧ ∃ k, w' = w10.drewN k from by
              have h2 := ints_any w10 A g ca A2 g c2 G G HGL.out HGL.out (by have := HGM.out; have := HM.out; omega) (HA7.out.below (HC2.out.trans (b10.mono HC2.out.size)) (Nat.le_refl _)) hk2
              rw [decide_eq_true rfl] at h2
              exact h2)
            clear hk2 b10
            go_wp2_with (fail)
            refine HINT.out.mono ?_
            rintro e w11 ⟨rfl, q11, rfl⟩
            go_wp2_with (fail)
            exact bodyPost_ret (results_tmp rfl _ _ _) rfl ⟨rfl, below_drewN HB10.out q11⟩

end
theorem walk (w : World) (x : Cfg) (s : ByteArray) (T : Option Addr) (n c : Nat) (ts : List Int) (most : Int) (D : Option Addr) (nd cd : Nat) (ds : List Int) (more : Int) (hts : ts.length = n) (hK : KIn .i64 w T ts) (hds : ds.length = nd) (hD : KIn .i64 w D ds) (hT : POn w ∧ GOn w) : Calls Tryd.prog 4 #[cfV x, .string s, .slice T n c, .int .i64 most, .slice D nd cd, .int .i64 more] w fun e w' => e = .returned (.bool true) ∧ Below w.heap.size w w' := by
  obtain ⟨hp, hg⟩ := hT
  rcases Nat.lt_or_ge 8 n with h0 | h0
  · exact leaf_big w x s T n c most D nd cd more hp hg h0
  rcases Nat.lt_or_ge 8 nd with h1 | h1
  · exact leaf_draws w x s T n c most D nd cd more hp hg h0 h1
  cases hs : smallG x with
  | false => exact leaf_great w x s T n c most D nd cd more hp hg h0 h1 hs
  | true =>
    rcases Nat.lt_or_ge 2048 s.size with hl | hl
    · exact leaf_long w x s T n c most D nd cd more hp hg h0 h1 hs hl
    rcases Classical.em (¬ Ok x s) with hk | hk
    · exact leaf_no w x s T n c most D nd cd more hp hg h0 h1 hs hl hk
    replace hk := Classical.not_not.1 hk
    by_cases he : errG x most ts = 0
    · exact leaf_ok w x s T n c ts most D nd cd ds more hp hg hts hK hds hD h0 h1 hs hl hk he
    · exact leaf_bad w x s T n c ts most D nd cd more hp hg hts hK h0 h1 hs hl hk he
end genBegins
end Go.Proofs.YtnfiojcfbohafaaDoor
