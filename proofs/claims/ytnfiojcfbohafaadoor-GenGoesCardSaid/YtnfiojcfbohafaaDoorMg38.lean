/-
  GenGoes: what was said, laid behind the prompt, goes on as it went. The walk. Condition: the tables lie where they are looked up.
-/
import Derived.Test.YtnfiojcfbohafaaDoorMg34
import Derived.Test.YtnfiojcfbohafaaDoorMg35
import Derived.Test.YtnfiojcfbohafaaDoorMg11
import Derived.Test.YtnfiojcfbohafaaDoorMg15
import Derived.Test.YtnfiojcfbohafaaDoorMg12
set_option maxRecDepth 100000
namespace Go.Proofs.YtnfiojcfbohafaaDoor
open Go.ChangeShapes Go.WideShapes Go.ChangeAt Go.RowKit Cf Vc Br Nr Sf Ac Sp Gn

namespace genGoes
section
variable (w : World) (x : Cfg) (s : ByteArray) (T : Option Addr) (n c : Nat) (ts : List Int) (most : Int) (D : Option Addr) (nd cd : Nat) (ds : List Int) (more : Int) (hp : POn w) (hg : GOn w) (hts : ts.length = n) (hK : KIn .i64 w T ts) (hds : ds.length = nd) (hD : KIn .i64 w D ds) (hcap : nd ≤ cd)

set_option maxRecDepth 100000 in
set_option maxHeartbeats 1600000 in
include hp hg in
theorem leaf_big (h0 : 6 < n) : Calls Tryd.prog 5 #[cfV x, .string s, .slice T n c, .int .i64 most, .slice D nd cd, .int .i64 more] w fun e w' => e = .returned (.bool true) ∧ Below w.heap.size w w' := by
  have HAW := Lib.hid (fun W (hW : Below w.heap.size w W) => awake18 W (hp.below hW (Nat.le_refl _)) (hg.below hW (Nat.le_refl _)))
  have HB0 := Lib.hid ((Below.refl w.heap.size w).alloc (Nat.le_refl _) (cfO 28 x))
  have HH0 := Lib.hid (heap_alloc_new w (cfO 28 x))
  have t0 : 6 < (n : Int) := by omega
  have t1 : decide (6 < (n : Int)) = true := decide_eq_true t0
  clear hp hg h0
  unfold cfV cfA at *
  go_enter Tryd.func5, Tryd.ntmps5
  go_wp2_with (fail)
  refine (HAW.out _ HB0.out).mono ?_
  rintro e w1 ⟨rfl, b1⟩
  have HB1 := Lib.hid (HB0.out.trans (b1.mono HB0.out.size))
  have HH1 := Lib.hid (Cf.stays HH0.out b1)
  clear b1 HAW HB0 HH0
  go_wp2_with (fail)
  exact bodyPost_ret (results_tmp rfl _ _ _) rfl ⟨rfl, HB1.out⟩

set_option maxRecDepth 100000 in
set_option maxHeartbeats 1600000 in
include hp hg in
theorem leaf_draws (h0 : n ≤ 6) (h1 : 6 < nd) : Calls Tryd.prog 5 #[cfV x, .string s, .slice T n c, .int .i64 most, .slice D nd cd, .int .i64 more] w fun e w' => e = .returned (.bool true) ∧ Below w.heap.size w w' := by
  have HAW := Lib.hid (fun W (hW : Below w.heap.size w W) => awake18 W (hp.below hW (Nat.le_refl _)) (hg.below hW (Nat.le_refl _)))
  have HB0 := Lib.hid ((Below.refl w.heap.size w).alloc (Nat.le_refl _) (cfO 28 x))
  have HH0 := Lib.hid (heap_alloc_new w (cfO 28 x))
  have t0 : ¬ 6 < (n : Int) := by omega
  have t1 : decide (6 < (n : Int)) = false := decide_eq_false t0
  have t2 : 6 < (nd : Int) := by omega
  have t3 : decide (6 < (nd : Int)) = true := decide_eq_true t2
  clear hp hg h0 h1
  unfold cfV cfA at *
  go_enter Tryd.func5, Tryd.ntmps5
  go_wp2_with (fail)
  refine (HAW.out _ HB0.out).mono ?_
  rintro e w1 ⟨rfl, b1⟩
  have HB1 := Lib.hid (HB0.out.trans (b1.mono HB0.out.size))
  have HH1 := Lib.hid (Cf.stays HH0.out b1)
  clear b1 HAW HB0 HH0
  go_wp2_with (fail)
  exact bodyPost_ret (results_tmp rfl _ _ _) rfl ⟨rfl, HB1.out⟩

set_option maxRecDepth 100000 in
set_option maxHeartbeats 1600000 in
include hp hg in
theorem leaf_great (h0 : n ≤ 6) (h1 : nd ≤ 6) (hs : smallG x = false) : Calls Tryd.prog 5 #[cfV x, .string s, .slice T n c, .int .i64 most, .slice D nd cd, .int .i64 more] w fun e w' => e = .returned (.bool true) ∧ Below w.heap.size w w' := by
  have HAW := Lib.hid (fun W (hW : Below w.heap.size w W) => awake18 W (hp.below hW (Nat.le_refl _)) (hg.below hW (Nat.le_refl _)))
  have HB0 := Lib.hid ((Below.refl w.heap.size w).alloc (Nat.le_refl _) (cfO 28 x))
  have HH0 := Lib.hid (heap_alloc_new w (cfO 28 x))
  have HSM := Lib.hid (fun W => small18 x W)
  rw [hs] at HSM
  have t0 : ¬ 6 < (n : Int) := by omega
  have t1 : decide (6 < (n : Int)) = false := decide_eq_false t0
  have t2 : ¬ 6 < (nd : Int) := by omega
  have t3 : decide (6 < (nd : Int)) = false := decide_eq_false t2
  clear hp hg h0 h1 hs
  unfold cfV cfA at *
  go_enter Tryd.func5, Tryd.ntmps5
  go_wp2_with (fail)
  refine (HAW.out _ HB0.out).mono ?_
  rintro e w1 ⟨rfl, b1⟩
  have HB1 := Lib.hid (HB0.out.trans (b1.mono HB0.out.size))
  have HH1 := Lib.hid (Cf.stays HH0.out b1)
  clear b1 HAW HB0 HH0
  obtain ⟨e0, e1, e2, e3, e4, e5⟩ := six HH1.out
  go_wp2_with (fail)
  refine (HSM.out _).mono ?_
  rintro e w2 ⟨rfl, b2⟩
  have HB2 := Lib.hid (HB1.out.trans (b2.mono HB1.out.size))
  have HH2 := Lib.hid (Cf.stays HH1.out b2)
  clear b2 e0 e1 e2 e3 e4 e5 HB1 HH1 HSM
  go_wp2_with (fail)
  exact bodyPost_ret (results_tmp rfl _ _ _) rfl ⟨rfl, HB2.out⟩

set_option maxRecDepth 100000 in
set_option maxHeartbeats 1600000 in
include hp hg in
theorem leaf_long (h0 : n ≤ 6) (h1 : nd ≤ 6) (hs : smallG x = true) (hl : 2048 < s.size) : Calls Tryd.prog 5 #[cfV x, .string s, .slice T n c, .int .i64 most, .slice D nd cd, .int .i64 more] w fun e w' => e = .returned (.bool true) ∧ Below w.heap.size w w' := by
  have HAW := Lib.hid (fun W (hW : Below w.heap.size w W) => awake18 W (hp.below hW (Nat.le_refl _)) (hg.below hW (Nat.le_refl _)))
  have HB0 := Lib.hid ((Below.refl w.heap.size w).alloc (Nat.le_refl _) (cfO 28 x))
  have HH0 := Lib.hid (heap_alloc_new w (cfO 28 x))
  have HSM := Lib.hid (fun W => small18 x W)
  rw [hs] at HSM
  have t0 : ¬ 6 < (n : Int) := by omega
  have t1 : decide (6 < (n : Int)) = false := decide_eq_false t0
  have t2 : ¬ 6 < (nd : Int) := by omega
  have t3 : decide (6 < (nd : Int)) = false := decide_eq_false t2
  have t4 : 2048 < (s.size : Int) := by omega
  have t5 : decide (2048 < (s.size : Int)) = true := decide_eq_true t4
  clear hp hg h0 h1 hs hl
  unfold cfV cfA at *
  go_enter Tryd.func5, Tryd.ntmps5
  go_wp2_with (fail)
  refine (HAW.out _ HB0.out).mono ?_
  rintro e w1 ⟨rfl, b1⟩
  have HB1 := Lib.hid (HB0.out.trans (b1.mono HB0.out.size))
  have HH1 := Lib.hid (Cf.stays HH0.out b1)
  clear b1 HAW HB0 HH0
  obtain ⟨e0, e1, e2, e3, e4, e5⟩ := six HH1.out
  go_wp2_with (fail)
  refine (HSM.out _).mono ?_
  rintro e w2 ⟨rfl, b2⟩
  have HB2 := Lib.hid (HB1.out.trans (b2.mono HB1.out.size))
  have HH2 := Lib.hid (Cf.stays HH1.out b2)
  clear b2 e0 e1 e2 e3 e4 e5 HB1 HH1 HSM
  go_wp2_with (fail)
  exact bodyPost_ret (results_tmp rfl _ _ _) rfl ⟨rfl, HB2.out⟩

set_option maxRecDepth 100000 in
set_option maxHeartbeats 1600000 in
include hp hg in
theorem leaf_no (h0 : n ≤ 6) (h1 : nd ≤ 6) (hs : smallG x = true) (hl : s.size ≤ 2048) (hk : ¬ Ok x s) : Calls Tryd.prog 5 #[cfV x, .string s, .slice T n c, .int .i64 most, .slice D nd cd, .int .i64 more] w fun e w' => e = .returned (.bool true) ∧ Below w.heap.size w w' := by
  obtain ⟨m, hm, ho⟩ : ∃ m : Int, m ≠ 0 ∧ ∀ W, Calls Tryd.prog 11 #[cfV x, .string s] W fun e w' => e = .returned (.tuple #[.pointer none, .int .i64 m]) ∧ Below W.heap.size W w' := by
    cases hgz : goodZ x with
    | false => exact ⟨1, by decide, fun W => brain_of_arg W x s hgz⟩
    | true => exact ⟨5, by decide, fun W => brain_of_form W x s hgz fun hs => hk ⟨good_iff.1 hgz, hs⟩⟩
  have HO := Lib.hid ho
  have t8 : (m != 0) = true := bne_iff_ne.2 hm
  have HAW := Lib.hid (fun W (hW : Below w.heap.size w W) => awake18 W (hp.below hW (Nat.le_refl _)) (hg.below hW (Nat.le_refl _)))
  have HB0 := Lib.hid ((Below.refl w.heap.size w).alloc (Nat.le_refl _) (cfO 28 x))
  have HH0 := Lib.hid (heap_alloc_new w (cfO 28 x))
  have HSM := Lib.hid (fun W => small18 x W)
  rw [hs] at HSM
  have t0 : ¬ 6 < (n : Int) := by omega
  have t1 : decide (6 < (n : Int)) = false := decide_eq_false t0
  have t2 : ¬ 6 < (nd : Int) := by omega
  have t3 : decide (6 < (nd : Int)) = false := decide_eq_false t2
  have t4 : ¬ 2048 < (s.size : Int) := by omega
  have t5 : decide (2048 < (s.size : Int)) = false := decide_eq_false t4
  clear hp hg h0 h1 hs hl hk ho hm
  unfold cfV cfA at *
  go_enter Tryd.func5, Tryd.ntmps5
  go_wp2_with (fail)
  refine (HAW.out _ HB0.out).mono ?_
  rintro e w1 ⟨rfl, b1⟩
  have HB1 := Lib.hid (HB0.out.trans (b1.mono HB0.out.size))
  have HH1 := Lib.hid (Cf.stays HH0.out b1)
  clear b1 HAW HB0 HH0
  obtain ⟨e0, e1, e2, e3, e4, e5⟩ := six HH1.out
  go_wp2_with (fail)
  refine (HSM.out _).mono ?_
  rintro e w2 ⟨rfl, b2⟩
  have HB2 := Lib.hid (HB1.out.trans (b2.mono HB1.out.size))
  have HH2 := Lib.hid (Cf.stays HH1.out b2)
  clear b2 e0 e1 e2 e3 e4 e5 HB1 HH1 HSM
  obtain ⟨e0, e1, e2, e3, e4, e5⟩ := six HH2.out
  go_wp2_with (fail)
  refine (HO.out _).mono ?_
  rintro e w3 ⟨rfl, b3⟩
  have HB3 := Lib.hid (HB2.out.trans (b3.mono HB2.out.size))
  clear b3
  go_wp2_with (fail)
  exact bodyPost_ret (results_tmp rfl _ _ _) rfl ⟨rfl, HB3.out⟩

set_option maxRecDepth 100000 in
set_option maxHeartbeats 1600000 in
include hp hg hts hK in
theorem leaf_bad (h0 : n ≤ 6) (h1 : nd ≤ 6) (hs : smallG x = true) (hl : s.size ≤ 2048) (hk : Ok x s) (he : errG x most ts ≠ 0) : Calls Tryd.prog 5 #[cfV x, .string s, .slice T n c, .int .i64 most, .slice D nd cd, .int .i64 more] w fun e w' => e = .returned (.bool true) ∧ Below w.heap.size w w' := by
  have HO := Lib.hid (fun W => brain_of W x s hk)
  have HAW := Lib.hid (fun W (hW : Below w.heap.size w W) => awake18 W (hp.below hW (Nat.le_refl _)) (hg.below hW (Nat.le_refl _)))
  have HB0 := Lib.hid ((Below.refl w.heap.size w).alloc (Nat.le_refl _) (cfO 28 x))
  have HH0 := Lib.hid (heap_alloc_new w (cfO 28 x))
  have HSM := Lib.hid (fun W => small18 x W)
  rw [hs] at HSM
  have t0 : ¬ 6 < (n : Int) := by omega
  have t1 : decide (6 < (n : Int)) = false := decide_eq_false t0
  have t2 : ¬ 6 < (nd : Int) := by omega
  have t3 : decide (6 < (nd : Int)) = false := decide_eq_false t2
  have t4 : ¬ 2048 < (s.size : Int) := by omega
  have t5 : decide (2048 < (s.size : Int)) = false := decide_eq_false t4
  have HGN := Lib.hid (fun W b (hW : Below w.heap.size w W) (hb : W.heap[b]? = some (brO x s)) => gen_gen_not W b x s hb T n c ts hts (by omega) (hK.below hW (Nat.le_refl _)) D nd cd most he)
  generalize errG x most ts = r at HGN he
  have t9 : (r != 0) = true := bne_iff_ne.2 he
  clear hp hg hts hK h0 h1 hs hl hk he
  unfold cfV cfA at *
  go_enter Tryd.func5, Tryd.ntmps5
  go_wp2_with (fail)
  refine (HAW.out _ HB0.out).mono ?_
  rintro e w1 ⟨rfl, b1⟩
  have HB1 := Lib.hid (HB0.out.trans (b1.mono HB0.out.size))
  have HH1 := Lib.hid (Cf.stays HH0.out b1)
  clear b1 HAW HB0 HH0
  obtain ⟨e0, e1, e2, e3, e4, e5⟩ := six HH1.out
  go_wp2_with (fail)
  refine (HSM.out _).mono ?_
  rintro e w2 ⟨rfl, b2⟩
  have HB2 := Lib.hid (HB1.out.trans (b2.mono HB1.out.size))
  have HH2 := Lib.hid (Cf.stays HH1.out b2)
  clear b2 e0 e1 e2 e3 e4 e5 HB1 HH1 HSM
  obtain ⟨e0, e1, e2, e3, e4, e5⟩ := six HH2.out
  go_wp2_with (fail)
  refine (HO.out _).mono ?_
  rintro e w3 ⟨b, rfl, hb, hh, b3⟩
  have HB3 := Lib.hid (HB2.out.trans (b3.mono HB2.out.size))
  have HH3 := Lib.hid (Cf.stays HH2.out b3)
  have HR3 := Lib.hid hh
  clear b3 hb hh e0 e1 e2 e3 e4 e5 HB2 HH2 HO
  go_wp2_with (fail)
  refine (HGN.out _ _ HB3.out HR3.out).mono ?_
  rintro e w4 ⟨rfl, b4⟩
  have HB4 := Lib.hid (HB3.out.trans (b4.mono HB3.out.size))
  clear b4
  go_wp2_with (fail)
  exact bodyPost_ret (results_tmp rfl _ _ _) rfl ⟨rfl, HB4.out⟩

set_option maxRecDepth 100000 in
set_option maxHeartbeats 12800000 in
include hp hg hts hK hds hD hcap in
theorem leaf_ok (h0 : n ≤ 6) (h1 : nd ≤ 6) (hs : smallG x = true) (hl : s.size ≤ 2048) (hk : Ok x s) (he : errG x most ts = 0) : Calls Tryd.prog 5 #[cfV x, .string s, .slice T n c, .int .i64 most, .slice D nd cd, .int .i64 more] w fun e w' => e = .returned (.bool true) ∧ Below w.heap.size w w' := by
  have HO := Lib.hid (fun W => brain_of W x s hk)
  have HAW := Lib.hid (fun W (hW : Below w.heap.size w W) => awake18 W (hp.below hW (Nat.le_refl _)) (hg.below hW (Nat.le_refl _)))
  have HB0 := Lib.hid ((Below.refl w.heap.size w).alloc (Nat.le_refl _) (cfO 28 x))
  have HH0 := Lib.hid (heap_alloc_new w (cfO 28 x))
  have HSM := Lib.hid (fun W => small18 x W)
  rw [hs] at HSM
  have t0 : ¬ 6 < (n : Int) := by omega
  have t1 : decide (6 < (n : Int)) = false := decide_eq_false t0
  have t2 : ¬ 6 < (nd : Int) := by omega
  have t3 : decide (6 < (nd : Int)) = false := decide_eq_false t2
  have t4 : ¬ 2048 < (s.size : Int) := by omega
  have t5 : decide (2048 < (s.size : Int)) = false := decide_eq_false t4
  obtain ⟨M, rfl, hM1, hM2⟩ := errG_most he
  have HM := Lib.hid (And.intro hM1 hM2)
  have HGN := Lib.hid (fun W b (hW : Below w.heap.size w W) (hb : W.heap[b]? = some (brO x s)) => gen_gen W b x s hb hk T n c ts hts (by omega) (hK.below hW (Nat.le_refl _)) D nd cd ds hds (hD.below hW (Nat.le_refl _)) M he (hp.below hW (Nat.le_refl _)) (hg.below hW (Nat.le_refl _)))
  have HKO := Lib.hid hk
  have HPG := Lib.hid (And.intro hp hg)
  have HKD := Lib.hid (fun W (hW : Below w.heap.size w W) => hD.below hW (Nat.le_refl _))
  have HKT := Lib.hid (fun W (hW : Below w.heap.size w W) => hK.below hW (Nat.le_refl _))
  have HDS := Lib.hid hds
  have HTL := Lib.hid hts
  have HDC := Lib.hid hcap
  have HN8 := Lib.hid (show n ≤ 6 ∧ nd ≤ 6 from ⟨h0, h1⟩)
  have hvv := dims hk.good.is
  have hv2 := hk.good.is.v2
  have hv32 := hk.good.is.v32
  have HIN := Lib.hid (fun z (hz : z ∈ genT x s (takeD ds) M 0 ts) => show tokB x z = true by
    have h1 := genT_in x s (takeD ds) (takeD_in ds) (by omega) (by omega) (fun T hT => runS_length x s T [] hT) M 0 ts (List.length_pos_iff.1 (errG_ok.1 he).1) z hz
    unfold tokB
    rw [decide_eq_true (by omega), decide_eq_true (by omega)]
    rfl)
  have HDR := Lib.hid (fun k (h : k ≤ (genT x s (takeD ds) M 0 ts).length) => genT_drop x s (takeD ds) k M 0 ts h)
  have HGM := Lib.hid (genT_length x s (takeD ds) M 0 ts)
  have HEG := Lib.hid (errG_ok.1 he)
  unfold SaidSays at HGN
  clear hM1 hM2 hvv hv2 hv32
  clear hp hg hts hK hds hD hcap h0 h1 hs hl hk he
  unfold cfV cfA at *
  go_enter Tryd.func5, Tryd.ntmps5
  go_wp2_with (fail)
  refine (HAW.out _ HB0.out).mono ?_
  rintro e w1 ⟨rfl, b1⟩
  have HB1 := Lib.hid (HB0.out.trans (b1.mono HB0.out.size))
  have HH1 := Lib.hid (Cf.stays HH0.out b1)
  clear b1 HAW HB0 HH0
  obtain ⟨e0, e1, e2, e3, e4, e5⟩ := six HH1.out
  go_wp2_with (fail)
  refine (HSM.out _).mono ?_
  rintro e w2 ⟨rfl, b2⟩
  have HB2 := Lib.hid (HB1.out.trans (b2.mono HB1.out.size))
  have HH2 := Lib.hid (Cf.stays HH1.out b2)
  clear b2 e0 e1 e2 e3 e4 e5 HB1 HH1 HSM
  obtain ⟨e0, e1, e2, e3, e4, e5⟩ := six HH2.out
  go_wp2_with (fail)
  refine (HO.out _).mono ?_
  rintro e w3 ⟨b, rfl, hb, hh, b3⟩
  have HB3 := Lib.hid (HB2.out.trans (b3.mono HB2.out.size))
  have HH3 := Lib.hid (Cf.stays HH2.out b3)
  have HR3 := Lib.hid hh
  clear b3 hb hh e0 e1 e2 e3 e4 e5 HB2 HH2 HO
  have HG0 := Lib.hid (HGN.out w3 b HB3.out HR3.out)
  generalize hGe : genT x s (takeD ds) M 0 ts = G at HIN HDR HGM HG0
  have HGO := Lib.hid (fun k (h1 : k ≤ G.length) (h2 : k < M) => show errG x ((M - k : Nat) : Int) (ts ++ G.take k) = 0 from by
    obtain ⟨a1, a2, a3, a4, a5⟩ := HEG.out
    have hl : (G.take k).length = k := by rw [List.length_take]; omega
    refine errG_ok.2 ⟨by rw [List.length_append]; omega, by omega, by omega, ?_, by rw [List.length_append, hl]; omega⟩
    rw [List.all_append, a4]
    exact List.all_eq_true.2 fun z hz => HIN.out z (List.mem_of_mem_take hz))
  obtain ⟨g, hgl⟩ : ∃ g, G.length = g := ⟨_, rfl⟩
  rw [hgl] at HG0 HGM HDR HGO
  have HGL := Lib.hid hgl
  clear hgl hGe HIN HEG
  go_wp2_with (fail)
  refine HG0.out.mono ?_
  rintro e w4 ⟨A, ca, rfl, hka, hca, b4⟩
  have HB4 := Lib.hid (HB3.out.trans (b4.mono HB3.out.size))
  have HR4 := Lib.hid (Br.stays HR3.out b4)
  have HKA := Lib.hid hka
  have HCA := Lib.hid (show g ≤ ca from hca)
  clear b4 hka hca HG0 HB3 HR3 HH3 HGN
  by_cases hg1 : g < 1
  · have z1 : (g : Int) < 1 := by omega
    have z2 : decide ((g : Int) < 1) = true := decide_eq_true z1
    clear hg1
    go_wp2_with (fail)
    exact bodyPost_ret (results_tmp rfl _ _ _) rfl ⟨rfl, HB4.out⟩
  have z1 : ¬ (g : Int) < 1 := by omega
  have z2 : decide ((g : Int) < 1) = false := decide_eq_false z1
  by_cases hM2 : M < 2
  · have z3 : (M : Int) < 2 := by omega
    have z4 : decide ((M : Int) < 2) = true := decide_eq_true z3
    clear hg1 hM2
    go_wp2_with (fail)
    exact bodyPost_ret (results_tmp rfl _ _ _) rfl ⟨rfl, HB4.out⟩
  have z3 : ¬ (M : Int) < 2 := by omega
  have z4 : decide ((M : Int) < 2) = false := decide_eq_false z3
  have HMG := Lib.hid (show 1 ≤ g ∧ 2 ≤ M by omega)
  obtain ⟨i, hi, hkk⟩ := cut64 more (g + 1) (Nat.succ_pos g)
  have HI := Lib.hid (show i ≤ g ∧ i ≤ M by have := HGM.out; omega)
  rw [Int.natCast_add, Int.natCast_one] at hkk
  have u1 : IntKind.u64.wrap ((g : Int) + 1) = (g : Int) + 1 := by
    have := u64_in (g + 1) (by have := HGM.out; have := HM.out; omega)
    rw [Int.natCast_add, Int.natCast_one] at this
    exact this
  have z5 : ¬ (g : Int) + 1 = 0 := by omega
  have z6 : ((g : Int) + 1 == 0) = false := beq_eq_false_iff_ne.2 z5
  have u2 := IntWalk.wrap64_in (i : Int) (by have := HI.out; have := HM.out; omega)
  have u3 := IntWalk.wrap64_in ((g : Int) + 1) (by have := HGM.out; have := HM.out; omega)
  have HO0 := Lib.hid (Own.new w4 w4.heap.size (Nat.le_refl _))
  have HC0 := Lib.hid ((Below.refl w4.heap.size w4).alloc (Nat.le_refl _) (.cells #[] 3))
  have HLN := Lib.hid (show ([] : List Int).length + ts.length = n by rw [HTL.out]; exact Nat.zero_add n)
  obtain ⟨k, hkd⟩ : ∃ k : Nat, k = if i = M then M - 1 else i := ⟨_, rfl⟩
  have HKL := Lib.hid (show k ≤ g ∧ k < M by have := HI.out; have := HMG.out; have := HGM.out; split at hkd <;> omega)
  obtain ⟨mk, hmk⟩ : ∃ mk, M - k = mk := ⟨_, rfl⟩
  have HKL2 := Lib.hid hmk
  obtain ⟨mn, hmn⟩ : ∃ mn, mn = min k nd := ⟨_, rfl⟩
  have HMN := Lib.hid (show mn = min k nd ∧ mn ≤ nd from ⟨hmn, by omega⟩)
  obtain ⟨m3, hm3⟩ : ∃ m3, nd - mn = m3 := ⟨_, rfl⟩
  have HM3 := Lib.hid hm3
  obtain ⟨gk, hgk⟩ : ∃ gk, g - k = gk := ⟨_, rfl⟩
  have HGKE := Lib.hid hgk
  have HGK := Lib.hid (show (G.drop k).length = gk by rw [List.length_drop, HGL.out]; exact hgk)
  have HGKB := Lib.hid (show gk ≤ 1000000 by have := HGM.out; have := HM.out; omega)
  have HLK := Lib.hid (show (G.take k).length = k by rw [List.length_take, HGL.out]; have := HKL.out; omega)
  have HKCA := Lib.hid (show k ≤ ca by have := HKL.out; have := HCA.out; omega)
  have HSM := Lib.hid (show n ≤ 4096 ∧ n + k ≤ 4096 by have := HN8.out; have := HKL.out; have := HM.out; omega)
  have HLS := Lib.hid (show ([] ++ ts).length + (G.take k).length = n + k by rw [List.nil_append, HTL.out, HLK.out])
  have HDG := Lib.hid (fun j => show (ds.drop mn).getD j 0 = ds.getD (k + j) 0 from by
    rw [List.getD_eq_getElem?_getD, List.getD_eq_getElem?_getD, List.getElem?_drop]
    by_cases hkn : k ≤ nd
    · rw [HMN.out.1, Nat.min_eq_left hkn]
    · rw [HMN.out.1, Nat.min_eq_right (by omega), List.getElem?_eq_none (by have := HDS.out; omega), List.getElem?_eq_none (by have := HDS.out; omega)])
  have hsubw : wrap64 ((M : Int) - (k : Int)) = (mk : Int) := (IntWalk.wrap64_in _ (by have := HM.out; have := HKL.out; omega)).trans (by have := HKL.out; omega)
  have hsubi : IntKind.i64.wrap ((M : Int) - (k : Int)) = (mk : Int) := (IntWalk.i64_in _ (by have := HM.out; have := HKL.out; omega)).trans (by have := HKL.out; omega)
  have HSU := Lib.hid (And.intro hsubw hsubi)
  clear hg1 hM2 hi hmk hmn hm3 hgk hsubw hsubi
  by_cases hiM : i = M
  · have t20 : ((i : Int) == (M : Int)) = true := by rw [hiM]; exact beq_self_eq_true _
    rw [if_pos hiM] at hkd
    have t21 : wrap64 ((M : Int) - 1) = (k : Int) := (IntWalk.wrap64_in _ (by have := HM.out; omega)).trans (by have := HM.out; omega)
    clear hkd hiM
    go_wp2_with (fail)
    try rw [t21]
    clear t20 t21 hkk u1 u2 u3 z1 z2 z3 z4 z5 z6
    obtain ⟨hsubw, hsubi⟩ := HSU.out

    have HGC := Lib.hid (fun W g2 cap2 (hW : Below w4.heap.size w4 W) (hO : Own W w4.heap.size (.slice (some ⟨g2, 0, none⟩) (n + k) cap2) (([] ++ ts) ++ G.take k)) => show Calls Tryd.prog 12 #[.pointer (some ⟨b, 0, none⟩), .slice (some ⟨g2, 0, none⟩) (n + k) cap2, .int .i64 (mk : Int), .slice (Vc.fromA D cd mn) m3 (cd - mn)] W fun e w' => ∃ A2 c2, e = .returned (.tuple #[.slice A2 gk c2, .int .i64 0]) ∧ KIn .i64 w' A2 (G.drop k) ∧ Below W.heap.size W w' from by
      have hk1 := hO.kin
      rw [List.nil_append] at hk1
      have hf := HGO.out k HKL.out.1 HKL.out.2
      rw [HKL2.out] at hf
      have hD3 := (HKD.out W (HB4.out.trans (hW.mono HB4.out.size))).from (by rw [HDS.out]; exact HDC.out) mn
      have h1 := gen_gen W b x s (Br.stays HR4.out hW) HKO.out (some ⟨g2, 0, none⟩) (n + k) cap2 (ts ++ G.take k) (by rw [List.length_append, HTL.out, HLK.out]) (by have := HN8.out; have := HKL.out; have := HGM.out; have := HM.out; omega) hk1 (Vc.fromA D cd mn) m3 (cd - mn) (ds.drop mn) (by rw [List.length_drop, HDS.out]; exact HM3.out) hD3 mk hf (HPG.out.1.below (HB4.out.trans (hW.mono HB4.out.size)) (Nat.le_refl _)) (HPG.out.2.below (HB4.out.trans (hW.mono HB4.out.size)) (Nat.le_refl _))
      refine h1.mono fun e w' ⟨A2, c2, a1, a2, _, a4⟩ => ?_
      have e1 : genT x s (takeD (ds.drop mn)) mk 0 (ts ++ G.take k) = G.drop k := by
        rw [← HDR.out k HKL.out.1, HKL2.out, Nat.zero_add]
        exact genT_same x s mk 0 k _ fun j _ sc => by
          unfold takeD
          rw [Nat.zero_add, HDG.out j]
      rw [e1] at a1 a2
      rw [HGK.out] at a1
      exact ⟨A2, c2, a1, a2, a4⟩)
    have HIX := Lib.hid (fun W A2 c2 (hW : Below w4.heap.size w4 W) (h2 : KIn .i64 W A2 (G.drop k)) => show Calls Tryd.prog 13 #[.slice A2 gk c2, .slice (Vc.fromA A ca k) gk (ca - k)] W fun e w' => e = .returned (.bool true) ∧ ∃ q, w' = W.drewN q from by
      have h1 := ints_any W A2 gk c2 (Vc.fromA A ca k) gk (ca - k) (G.drop k) (G.drop k) HGK.out HGK.out (by have := HGKB.out; omega) h2 ((HKA.out.below hW (Nat.le_refl _)).from (by rw [HGL.out]; exact HCA.out) k)
      rw [decide_eq_true rfl] at h1
      exact h1)
    have y1 := cut_to g ca k (k : Int) A rfl HKCA.out
    have y2 := cut_from nd cd mn (mn : Int) D rfl HMN.out.2
    rw [HM3.out] at y2
    have y3 : min (k : Int) (nd : Int) = (mn : Int) := by have := HMN.out.1; omega
    have y4 : min k nd = mn := HMN.out.1.symm
    have y5 := cut_from g ca k (k : Int) A rfl HKL.out.1
    rw [HGKE.out] at y5
    have HY5 := Lib.hid y5
    have HKT6 := Lib.hid (HKT.out _ (HB4.out.trans (HC0.out.mono HB4.out.size)))
    have HC0D := Lib.hid (show Below w4.heap.size w4 (w4.alloc (.cells #[] 3)).drew from below_drewN HC0.out 1)
    have HKT6D := Lib.hid (HKT.out _ (HB4.out.trans (HC0D.out.mono HB4.out.size)))
    have HKGT := Lib.hid (fun W (hW : Below w4.heap.size w4 W) => (HKA.out.below hW (Nat.le_refl _)).take k)
    clear y5 HKT6
    have y6 := hsubw
    have y7 := hsubi
    clear hsubw hsubi
    have k0 : 0 ≤ (k : Int) := Int.natCast_nonneg k
    have k1 : (k : Int) ≤ (g : Int) := Int.ofNat_le.2 HKL.out.1
    have k3 : (k : Int) ≤ (ca : Int) := Int.ofNat_le.2 HKCA.out
    have k4 : 0 ≤ (mn : Int) := Int.natCast_nonneg mn
    have k5 : (mn : Int) ≤ (nd : Int) := Int.ofNat_le.2 HMN.out.2
    go_region_held3 (fun _ : World => True) (first | exact trivial) (first
      | ((refine step_ints_every (by rfl) _ _ (by rfl) w4.heap.size w4.heap.size 0 0 [] ts (by rfl) HO0.out T n c (by rfl) HTL.out HKT6D.out n HLN.out HSM.out.1 HC0.out.size ?_; intro g1 cap1 wz1 hown1 hgrow1; have O9 := Lib.hid hown1; have B9 := Lib.hid ((below_drewN HC0.out 1).grown hgrow1 HC0.out.size fun i hi => (HO0.out.lt i hi).1); clear hown1 hgrow1))
      | ((refine step_ints_every (by rfl) _ _ (by rfl) w4.heap.size g1 cap1 n ([] ++ ts) (G.take k) (by rfl) O9.out A k ca (by rfl) HLK.out (HKGT.out _ B9.out) (n + k) HLS.out HSM.out.2 B9.out.size ?_; intro g2 cap2 wz2 hown2 hgrow2; have O10 := Lib.hid hown2; have B10 := Lib.hid (B9.out.grown hgrow2 B9.out.size fun i hi => (O9.out.lt i hi).1); clear hown2 hgrow2))
      | (go_at_call 12; (with_reducible refine (HGC.out wz2 g2 cap2 B10.out O10.out).mono ?_); rintro e w9 ⟨A2, c2, rfl, hk2, b9⟩; have K9 := Lib.hid hk2; have B11 := Lib.hid (B10.out.trans (b9.mono B10.out.size)); clear hk2 b9))
    all_goals (
      have HB9 := Lib.hid (HB4.out.trans (B11.out.mono HB4.out.size))
      have HIN := Lib.hid (HIX.out w9 A2 c2 B11.out K9.out)
      have y8 := HY5.out
      clear y1 y2 y3 y4 y6 y7 k4 k5
      go_wp2_with (fail)
      refine HIN.out.mono ?_
      rintro e w10 ⟨rfl, q10, rfl⟩
      go_wp2_with (fail)
      exact bodyPost_ret (results_tmp rfl _ _ _) rfl ⟨rfl, below_drewN HB9.out q10⟩)
  · have t20 : ((i : Int) == (M : Int)) = false := beq_eq_false_iff_ne.2 (by omega)
    rw [if_neg hiM] at hkd
    subst hkd
    clear hiM
    go_wp2_with (fail)
    try rw [u2]
    clear t20 hkk u1 u2 u3 z1 z2 z3 z4 z5 z6
    obtain ⟨hsubw, hsubi⟩ := HSU.out

    have HGC := Lib.hid (fun W g2 cap2 (hW : Below w4.heap.size w4 W) (hO : Own W w4.heap.size (.slice (some ⟨g2, 0, none⟩) (n + k) cap2) (([] ++ ts) ++ G.take k)) => show Calls Tryd.prog 12 #[.pointer (some ⟨b, 0, none⟩), .slice (some ⟨g2, 0, none⟩) (n + k) cap2, .int .i64 (mk : Int), .slice (Vc.fromA D cd mn) m3 (cd - mn)] W fun e w' => ∃ A2 c2, e = .returned (.tuple #[.slice A2 gk c2, .int .i64 0]) ∧ KIn .i64 w' A2 (G.drop k) ∧ Below W.heap.size W w' from by
      have hk1 := hO.kin
      rw [List.nil_append] at hk1
      have hf := HGO.out k HKL.out.1 HKL.out.2
      rw [HKL2.out] at hf
      have hD3 := (HKD.out W (HB4.out.trans (hW.mono HB4.out.size))).from (by rw [HDS.out]; exact HDC.out) mn
      have h1 := gen_gen W b x s (Br.stays HR4.out hW) HKO.out (some ⟨g2, 0, none⟩) (n + k) cap2 (ts ++ G.take k) (by rw [List.length_append, HTL.out, HLK.out]) (by have := HN8.out; have := HKL.out; have := HGM.out; have := HM.out; omega) hk1 (Vc.fromA D cd mn) m3 (cd - mn) (ds.drop mn) (by rw [List.length_drop, HDS.out]; exact HM3.out) hD3 mk hf (HPG.out.1.below (HB4.out.trans (hW.mono HB4.out.size)) (Nat.le_refl _)) (HPG.out.2.below (HB4.out.trans (hW.mono HB4.out.size)) (Nat.le_refl _))
      refine h1.mono fun e w' ⟨A2, c2, a1, a2, _, a4⟩ => ?_
      have e1 : genT x s (takeD (ds.drop mn)) mk 0 (ts ++ G.take k) = G.drop k := by
        rw [← HDR.out k HKL.out.1, HKL2.out, Nat.zero_add]
        exact genT_same x s mk 0 k _ fun j _ sc => by
          unfold takeD
          rw [Nat.zero_add, HDG.out j]
      rw [e1] at a1 a2
      rw [HGK.out] at a1
      exact ⟨A2, c2, a1, a2, a4⟩)
    have HIX := Lib.hid (fun W A2 c2 (hW : Below w4.heap.size w4 W) (h2 : KIn .i64 W A2 (G.drop k)) => show Calls Tryd.prog 13 #[.slice A2 gk c2, .slice (Vc.fromA A ca k) gk (ca - k)] W fun e w' => e = .returned (.bool true) ∧ ∃ q, w' = W.drewN q from by
      have h1 := ints_any W A2 gk c2 (Vc.fromA A ca k) gk (ca - k) (G.drop k) (G.drop k) HGK.out HGK.out (by have := HGKB.out; omega) h2 ((HKA.out.below hW (Nat.le_refl _)).from (by rw [HGL.out]; exact HCA.out) k)
      rw [decide_eq_true rfl] at h1
      exact h1)
    have y1 := cut_to g ca k (k : Int) A rfl HKCA.out
    have y2 := cut_from nd cd mn (mn : Int) D rfl HMN.out.2
    rw [HM3.out] at y2
    have y3 : min (k : Int) (nd : Int) = (mn : Int) := by have := HMN.out.1; omega
    have y4 : min k nd = mn := HMN.out.1.symm
    have y5 := cut_from g ca k (k : Int) A rfl HKL.out.1
    rw [HGKE.out] at y5
    have HY5 := Lib.hid y5
    have HKT6 := Lib.hid (HKT.out _ (HB4.out.trans (HC0.out.mono HB4.out.size)))
    have HC0D := Lib.hid (show Below w4.heap.size w4 (w4.alloc (.cells #[] 3)).drew from below_drewN HC0.out 1)
    have HKT6D := Lib.hid (HKT.out _ (HB4.out.trans (HC0D.out.mono HB4.out.size)))
    have HKGT := Lib.hid (fun W (hW : Below w4.heap.size w4 W) => (HKA.out.below hW (Nat.le_refl _)).take k)
    clear y5 HKT6
    have y6 := hsubw
    have y7 := hsubi
    clear hsubw hsubi
    have k0 : 0 ≤ (k : Int) := Int.natCast_nonneg k
    have k1 : (k : Int) ≤ (g : Int) := Int.ofNat_le.2 HKL.out.1
    have k3 : (k : Int) ≤ (ca : Int) := Int.ofNat_le.2 HKCA.out
    have k4 : 0 ≤ (mn : Int) := Int.natCast_nonneg mn
    have k5 : (mn : Int) ≤ (nd : Int) := Int.ofNat_le.2 HMN.out.2
    go_region_held3 (fun _ : World => True) (first | exact trivial) (first
      | ((refine step_ints_every (by rfl) _ _ (by rfl) w4.heap.size w4.heap.size 0 0 [] ts (by rfl) HO0.out T n c (by rfl) HTL.out HKT6D.out n HLN.out HSM.out.1 HC0.out.size ?_; intro g1 cap1 wz1 hown1 hgrow1; have O9 := Lib.hid hown1; have B9 := Lib.hid ((below_drewN HC0.out 1).grown hgrow1 HC0.out.size fun i hi => (HO0.out.lt i hi).1); clear hown1 hgrow1))
      | ((refine step_ints_every (by rfl) _ _ (by rfl) w4.heap.size g1 cap1 n ([] ++ ts) (G.take k) (by rfl) O9.out A k ca (by rfl) HLK.out (HKGT.out _ B9.out) (n + k) HLS.out HSM.out.2 B9.out.size ?_; intro g2 cap2 wz2 hown2 hgrow2; have O10 := Lib.hid hown2; have B10 := Lib.hid (B9.out.grown hgrow2 B9.out.size fun i hi => (O9.out.lt i hi).1); clear hown2 hgrow2))
      | (go_at_call 12; (with_reducible refine (HGC.out wz2 g2 cap2 B10.out O10.out).mono ?_); rintro e w9 ⟨A2, c2, rfl, hk2, b9⟩; have K9 := Lib.hid hk2; have B11 := Lib.hid (B10.out.trans (b9.mono B10.out.size)); clear hk2 b9))
    all_goals (
      have HB9 := Lib.hid (HB4.out.trans (B11.out.mono HB4.out.size))
      have HIN := Lib.hid (HIX.out w9 A2 c2 B11.out K9.out)
      have y8 := HY5.out
      clear y1 y2 y3 y4 y6 y7 k4 k5
      go_wp2_with (fail)
      refine HIN.out.mono ?_
      rintro e w10 ⟨rfl, q10, rfl⟩
      go_wp2_with (fail)
      exact bodyPost_ret (results_tmp rfl _ _ _) rfl ⟨rfl, below_drewN HB9.out q10⟩)

end
theorem walk (w : World) (x : Cfg) (s : ByteArray) (T : Option Addr) (n c : Nat) (ts : List Int) (most : Int) (D : Option Addr) (nd cd : Nat) (ds : List Int) (more : Int) (hts : ts.length = n) (hK : KIn .i64 w T ts) (hds : ds.length = nd) (hD : KIn .i64 w D ds) (hcap : nd ≤ cd) (hT : POn w ∧ GOn w) : Calls Tryd.prog 5 #[cfV x, .string s, .slice T n c, .int .i64 most, .slice D nd cd, .int .i64 more] w fun e w' => e = .returned (.bool true) ∧ Below w.heap.size w w' := by
  obtain ⟨hp, hg⟩ := hT
  rcases Nat.lt_or_ge 6 n with h0 | h0
  · exact leaf_big w x s T n c most D nd cd more hp hg h0
  rcases Nat.lt_or_ge 6 nd with h1 | h1
  · exact leaf_draws w x s T n c most D nd cd more hp hg h0 h1
  cases hs : smallG x with
  | false => exact leaf_great w x s T n c most D nd cd more hp hg h0 h1 hs
  | true =>
    rcases Nat.lt_or_ge 2048 s.size with hl | hl
    · exact leaf_long w x s T n c most D nd cd more hp hg h0 h1 hs hl
    rcases Classical.em (¬ Ok x s) with hk | hk
    · exact leaf_no w x s T n c most D nd cd more hp hg h0 h1 hs hl hk
    replace hk := Classical.not_not.1 hk
    by_cases he : errG x most ts = 0
    · exact leaf_ok w x s T n c ts most D nd cd ds more hp hg hts hK hds hD hcap h0 h1 hs hl hk he
    · exact leaf_bad w x s T n c ts most D nd cd more hp hg hts hK h0 h1 hs hl hk he
end genGoes
end Go.Proofs.YtnfiojcfbohafaaDoor
